/- The landed package decode: which row bytes begin with, groups.; The landed package decode: which row bytes begin with, groups. -/
import Derived.Test.YtlhfpfiehgcciaaKL
namespace Go.Proofs.Ytlhfpfiehgcciaa
open Go.ChangeShapes Go.WideShapes Go.ChangeAt Go.RowKit

attribute [local go_sem] isSome_setCell
set_option maxRecDepth 100000 in
set_option maxHeartbeats 1000000 in
theorem dform_129 (w0 : World) (L : Nat) (bs : Nat → Int) (hb : ∀ i, 0 ≤ bs i ∧ bs i < 256) (B : Nat) (s : RS) (u : World) (h : Rd w0 L bs B s u) (hz : (numS L bs 1 s).1 = 129) :
    Calls Try.prog 28 #[.pointer (some ⟨B, 0, none⟩)] u fun e w' => e = .returned (lfV (formS L bs s).1) ∧ RTo w0 L bs B (formS L bs s).2 u w' := by
  obtain ⟨t, hT⟩ : ∃ t, (numS L bs 1 s).2 = t := ⟨_, rfl⟩
  have hF : formS L bs s = (grpL 129 (memS L bs { t with opc := 129 }).1, (memS L bs { t with opc := 129 }).2) := by
    unfold formS
    simp only [hz, hT]
    rfl
  rw [hF]
  clear hF
  have HN := Lib.hid (fun o => dnext_any w0 L bs hb B s (u.alloc o) (h.alloc o))
  rw [hz, hT] at HN
  have HX := Lib.hid (fun (W : World) (hW : Rd w0 L bs B { t with opc := 129 } W) => dmember_any w0 L bs hb B _ W hW)
  have hy : 0 ≤ (memS L bs { t with opc := 129 }).1 ∧ (memS L bs { t with opc := 129 }).1 < 8 := memS_bd L bs _
  have ho : (memS L bs { t with opc := 129 }).2.opc = 129 := memS_opc L bs _
  have hqq := memS_again L bs { t with opc := 129 }
  generalize memS L bs { t with opc := 129 } = p at *
  obtain ⟨y, q⟩ := p
  replace hy : 0 ≤ y ∧ y < 8 := hy
  replace ho : q.opc = 129 := ho
  have HO := Lib.hid ho
  replace hqq : memS L bs q = (y, q) := hqq
  have HXQ := fun (W : World) (hW : Rd w0 L bs B q W) => dmember_any w0 L bs hb B q W hW
  rw [hqq] at HXQ
  have HXQ := Lib.hid HXQ
  show Calls _ _ _ _ fun e w' => e = .returned (lfV (grpL 129 y)) ∧ RTo w0 L bs B q u w'
  have HX : Hid (∀ W, Rd w0 L bs B { t with opc := 129 } W → Calls Try.prog 47 #[.pointer (some ⟨B, 0, none⟩)] W fun e w' => e = .returned (.int .i64 y) ∧ RTo w0 L bs B q W w') := HX
  have HG := Lib.hid (fun W => dgrp_any 129 y rfl hy.1 hy.2 W)
  generalize hV : lfV (grpL 129 y) = V at *
  obtain ⟨f, hf⟩ : ∃ f, grpL 129 y = f := ⟨_, rfl⟩
  rw [hf] at hV
  have HV := Lib.hid hV
  have hlt := h.lt
  clear h hb hz hT hy ho hf hV hqq
  go_enter Try.func28, Try.ntmps28
  go_wp2_with fail
  refine (HN.out _).mono ?_
  rintro e w1 ⟨rfl, h1⟩
  obtain ⟨v1, hB1, hs1⟩ := h1.rd.at_
  obtain ⟨c0, c1, c2, c3⟩ := hB1.cells
  have z1 := hB1.froz 1
  have H1 := Lib.hid (h1.set (t := { t with opc := 129 }) 1 (.int .i64 129) rfl (fun _ => rfl))
  clear h1 hB1 hs1 c0 c2 c3
  have hne : u.heap.size ≠ B := by omega
  have HLT := Lib.hid hlt
  have HZ := Lib.hid (there_to (n := 7) H1.out hlt (by decide))
  have H1 := Lib.hid H1.out.first
  clear hlt
  go_upto_region 24 with (fail)
  clear c1 z1
  refine wp_region_vals (by kernel_rfl) (fun i => i == 7) (by kernel_rfl) (GInv w0 L bs B u { t with opc := 129 } q) (GG w0 L bs B u q f) (GV w0 L bs B u q f 129 y) gv_stays gg_refl ?_ ?_ ?_
  · exact ⟨.inl (RTo.drawn H1.out), HZ.out⟩
  · intro i o b u1 ho hinv hsz hbase hdep
    have hi : i < 8 := (Array.getElem?_eq_some_iff.1 ho).1
    have b0 : b.tmps.getD 0 undef = .pointer (some ⟨B, 0, none⟩) := hbase 0 (by kernel_rfl)
    have b2 : b.tmps.getD 2 undef = .pointer (some ⟨u.heap.size, 0, none⟩) := hbase 2 (by kernel_rfl)
    clear hbase hsz
    have h8 : i = 0 ∨ i = 1 ∨ i = 2 ∨ i = 3 ∨ i = 4 ∨ i = 5 ∨ i = 6 ∨ i = 7 := by omega
    rcases h8 with rfl | rfl | rfl | rfl | rfl | rfl | rfl | rfl
    · cases ho
      exact wp_val (by simp [execOp, Act.eval, b0] <;> rfl) ⟨_, rfl, hinv, gg_refl _, rfl⟩
    · cases ho
      have d0 : b.tmps.getD 46 undef = .pointer (some ⟨B, 0, none⟩) := hdep 0 (by kernel_rfl)
      exact wp_val (by simp [execOp, Act.eval, d0, go_sem] <;> rfl) ⟨_, rfl, hinv, gg_refl _, rfl⟩
    · cases ho
      have d1 : b.tmps.getD 47 undef = .pointer (some ⟨B, 0, none⟩) := hdep 1 (by kernel_rfl)
      exact wp_val (by simp [execOp, Act.eval, d1, go_sem] <;> rfl) ⟨_, rfl, hinv, gg_refl _, rfl⟩
    · cases ho
      have d2 : b.tmps.getD 48 undef = .pointer (some ⟨B, 1, none⟩) := hdep 2 (by kernel_rfl)
      have c1 := hinv.opc (z := 129) rfl HO.out
      exact wp_val (by simp [execOp, Act.eval, d2, go_sem, c1] <;> rfl) ⟨_, rfl, hinv, gg_refl _, rfl⟩
    · cases ho
      exact wp_val (by simp [execOp, Act.eval, b0] <;> rfl) ⟨_, rfl, hinv, gg_refl _, rfl⟩
    · cases ho
      have d4 : b.tmps.getD 50 undef = .pointer (some ⟨B, 0, none⟩) := hdep 4 (by kernel_rfl)
      obtain ⟨hi1, hi2⟩ := hinv
      rcases hi1 with hi1 | hi1
      · refine wp_call (by simp [execOp, Act.eval, d4, go_sem] <;> rfl) ((HX.out u1 hi1.rd).mono ?_)
        rintro e u' ⟨rfl, h2⟩
        exact ⟨_, rfl, _, rfl, ⟨.inr (hi1.trans h2), there_but h2.but hne (there_lt hi2 (by decide)) hi2⟩, gg_call hne (fun _ => hi1.trans h2) h2.but, rfl, hi1.trans h2⟩
      · refine wp_call (by simp [execOp, Act.eval, d4, go_sem] <;> rfl) ((HXQ.out u1 hi1.rd).mono ?_)
        rintro e u' ⟨rfl, h2⟩
        exact ⟨_, rfl, _, rfl, ⟨.inr (hi1.trans h2), there_but h2.but hne (there_lt hi2 (by decide)) hi2⟩, gg_call hne (fun _ => hi1.trans h2) h2.but, rfl, hi1.trans h2⟩
    · cases ho
      have d3 : b.tmps.getD 49 undef = .int .i64 129 := hdep 3 (by kernel_rfl)
      have d5 : b.tmps.getD 51 undef = .int .i64 y := (hdep 5 (by kernel_rfl)).1
      have h5 : RTo w0 L bs B q u u1 := (hdep 5 (by kernel_rfl)).2
      refine wp_call (by simp [execOp, Act.eval, d3, d5, go_sem] <;> rfl) ((HG.out u1).mono ?_)
      rintro e u' ⟨rfl, h2⟩
      exact ⟨_, rfl, _, rfl, ⟨.inr (h5.ext h2), there_but (F := fun _ => False) (But.of_below h2) (fun h => h) (there_lt hinv.2 (by decide)) hinv.2⟩, gg_call (F := fun _ => False) (fun h => h) (fun h => h.ext h2) (But.of_below h2), HV.out.symm⟩
    · cases ho
      have d6 : b.tmps.getD 52 undef = lfV f := hdep 6 (by kernel_rfl)
      obtain ⟨hi1, hi2⟩ := hinv
      have hr := World.rangeAt_setCells_same u1 u.heap.size 0 (lfL f) hi2
      refine wp_store_mid 73 (.tmp 2) (.tmp 52) rfl u.heap.size 0 (lfL f).toArray b2 d6 hi2 info_lf (lf_one f) ⟨_, rfl, ⟨?_, ?_⟩, ⟨fun h => ?_, fun _ => hr⟩, hr⟩
      · exact hi1.elim (fun h => .inl (h.cells (Nat.le_refl _) HLT.out _ _)) (fun h => .inr (h.cells (Nat.le_refl _) HLT.out _ _))
      · exact World.there_setCells hi2 _ _ _
      · exact h.cells (Nat.le_refl _) HLT.out _ _
  · intro ff u1 hinv hVV
    have h5 := (hVV 5 (by decide)).2
    have h7 := hVV 7 (by decide)
    generalize hbb : laid _ ff _ _ = b
    have b2 : b.tmps.getD 2 undef = .pointer (some ⟨u.heap.size, 0, none⟩) := by rw [← hbb]; kernel_rfl
    have bd : b.defers = [] := by rw [← hbb]; kernel_rfl
    clear hbb
    have hl := load_lf h7
    have HL := Lib.hid hl
    have H5 := Lib.hid h5
    clear hl h5 h7 hinv hVV
    go_wp2_with fail
    exact bodyPost_ret (results_cell rfl b2 HL.out) bd ⟨by rw [HV.out], H5.out⟩
set_option maxRecDepth 100000 in
set_option maxHeartbeats 1000000 in
theorem dform_193 (w0 : World) (L : Nat) (bs : Nat → Int) (hb : ∀ i, 0 ≤ bs i ∧ bs i < 256) (B : Nat) (s : RS) (u : World) (h : Rd w0 L bs B s u) (hz : (numS L bs 1 s).1 = 193) :
    Calls Try.prog 28 #[.pointer (some ⟨B, 0, none⟩)] u fun e w' => e = .returned (lfV (formS L bs s).1) ∧ RTo w0 L bs B (formS L bs s).2 u w' := by
  obtain ⟨t, hT⟩ : ∃ t, (numS L bs 1 s).2 = t := ⟨_, rfl⟩
  have hF : formS L bs s = (grpL 193 (memS L bs { t with opc := 193 }).1, (memS L bs { t with opc := 193 }).2) := by
    unfold formS
    simp only [hz, hT]
    rfl
  rw [hF]
  clear hF
  have HN := Lib.hid (fun o => dnext_any w0 L bs hb B s (u.alloc o) (h.alloc o))
  rw [hz, hT] at HN
  have HX := Lib.hid (fun (W : World) (hW : Rd w0 L bs B { t with opc := 193 } W) => dmember_any w0 L bs hb B _ W hW)
  have hy : 0 ≤ (memS L bs { t with opc := 193 }).1 ∧ (memS L bs { t with opc := 193 }).1 < 8 := memS_bd L bs _
  have ho : (memS L bs { t with opc := 193 }).2.opc = 193 := memS_opc L bs _
  have hqq := memS_again L bs { t with opc := 193 }
  generalize memS L bs { t with opc := 193 } = p at *
  obtain ⟨y, q⟩ := p
  replace hy : 0 ≤ y ∧ y < 8 := hy
  replace ho : q.opc = 193 := ho
  have HO := Lib.hid ho
  replace hqq : memS L bs q = (y, q) := hqq
  have HXQ := fun (W : World) (hW : Rd w0 L bs B q W) => dmember_any w0 L bs hb B q W hW
  rw [hqq] at HXQ
  have HXQ := Lib.hid HXQ
  show Calls _ _ _ _ fun e w' => e = .returned (lfV (grpL 193 y)) ∧ RTo w0 L bs B q u w'
  have HX : Hid (∀ W, Rd w0 L bs B { t with opc := 193 } W → Calls Try.prog 47 #[.pointer (some ⟨B, 0, none⟩)] W fun e w' => e = .returned (.int .i64 y) ∧ RTo w0 L bs B q W w') := HX
  have HG := Lib.hid (fun W => dgrp_any 193 y rfl hy.1 hy.2 W)
  generalize hV : lfV (grpL 193 y) = V at *
  obtain ⟨f, hf⟩ : ∃ f, grpL 193 y = f := ⟨_, rfl⟩
  rw [hf] at hV
  have HV := Lib.hid hV
  have hlt := h.lt
  clear h hb hz hT hy ho hf hV hqq
  go_enter Try.func28, Try.ntmps28
  go_wp2_with fail
  refine (HN.out _).mono ?_
  rintro e w1 ⟨rfl, h1⟩
  obtain ⟨v1, hB1, hs1⟩ := h1.rd.at_
  obtain ⟨c0, c1, c2, c3⟩ := hB1.cells
  have z1 := hB1.froz 1
  have H1 := Lib.hid (h1.set (t := { t with opc := 193 }) 1 (.int .i64 193) rfl (fun _ => rfl))
  clear h1 hB1 hs1 c0 c2 c3
  have hne : u.heap.size ≠ B := by omega
  have HLT := Lib.hid hlt
  have HZ := Lib.hid (there_to (n := 7) H1.out hlt (by decide))
  have H1 := Lib.hid H1.out.first
  clear hlt
  go_upto_region 24 with (fail)
  clear c1 z1
  refine wp_region_vals (by kernel_rfl) (fun i => i == 7) (by kernel_rfl) (GInv w0 L bs B u { t with opc := 193 } q) (GG w0 L bs B u q f) (GV w0 L bs B u q f 193 y) gv_stays gg_refl ?_ ?_ ?_
  · exact ⟨.inl (RTo.drawn H1.out), HZ.out⟩
  · intro i o b u1 ho hinv hsz hbase hdep
    have hi : i < 8 := (Array.getElem?_eq_some_iff.1 ho).1
    have b0 : b.tmps.getD 0 undef = .pointer (some ⟨B, 0, none⟩) := hbase 0 (by kernel_rfl)
    have b2 : b.tmps.getD 2 undef = .pointer (some ⟨u.heap.size, 0, none⟩) := hbase 2 (by kernel_rfl)
    clear hbase hsz
    have h8 : i = 0 ∨ i = 1 ∨ i = 2 ∨ i = 3 ∨ i = 4 ∨ i = 5 ∨ i = 6 ∨ i = 7 := by omega
    rcases h8 with rfl | rfl | rfl | rfl | rfl | rfl | rfl | rfl
    · cases ho
      exact wp_val (by simp [execOp, Act.eval, b0] <;> rfl) ⟨_, rfl, hinv, gg_refl _, rfl⟩
    · cases ho
      have d0 : b.tmps.getD 46 undef = .pointer (some ⟨B, 0, none⟩) := hdep 0 (by kernel_rfl)
      exact wp_val (by simp [execOp, Act.eval, d0, go_sem] <;> rfl) ⟨_, rfl, hinv, gg_refl _, rfl⟩
    · cases ho
      have d1 : b.tmps.getD 47 undef = .pointer (some ⟨B, 0, none⟩) := hdep 1 (by kernel_rfl)
      exact wp_val (by simp [execOp, Act.eval, d1, go_sem] <;> rfl) ⟨_, rfl, hinv, gg_refl _, rfl⟩
    · cases ho
      have d2 : b.tmps.getD 48 undef = .pointer (some ⟨B, 1, none⟩) := hdep 2 (by kernel_rfl)
      have c1 := hinv.opc (z := 193) rfl HO.out
      exact wp_val (by simp [execOp, Act.eval, d2, go_sem, c1] <;> rfl) ⟨_, rfl, hinv, gg_refl _, rfl⟩
    · cases ho
      exact wp_val (by simp [execOp, Act.eval, b0] <;> rfl) ⟨_, rfl, hinv, gg_refl _, rfl⟩
    · cases ho
      have d4 : b.tmps.getD 50 undef = .pointer (some ⟨B, 0, none⟩) := hdep 4 (by kernel_rfl)
      obtain ⟨hi1, hi2⟩ := hinv
      rcases hi1 with hi1 | hi1
      · refine wp_call (by simp [execOp, Act.eval, d4, go_sem] <;> rfl) ((HX.out u1 hi1.rd).mono ?_)
        rintro e u' ⟨rfl, h2⟩
        exact ⟨_, rfl, _, rfl, ⟨.inr (hi1.trans h2), there_but h2.but hne (there_lt hi2 (by decide)) hi2⟩, gg_call hne (fun _ => hi1.trans h2) h2.but, rfl, hi1.trans h2⟩
      · refine wp_call (by simp [execOp, Act.eval, d4, go_sem] <;> rfl) ((HXQ.out u1 hi1.rd).mono ?_)
        rintro e u' ⟨rfl, h2⟩
        exact ⟨_, rfl, _, rfl, ⟨.inr (hi1.trans h2), there_but h2.but hne (there_lt hi2 (by decide)) hi2⟩, gg_call hne (fun _ => hi1.trans h2) h2.but, rfl, hi1.trans h2⟩
    · cases ho
      have d3 : b.tmps.getD 49 undef = .int .i64 193 := hdep 3 (by kernel_rfl)
      have d5 : b.tmps.getD 51 undef = .int .i64 y := (hdep 5 (by kernel_rfl)).1
      have h5 : RTo w0 L bs B q u u1 := (hdep 5 (by kernel_rfl)).2
      refine wp_call (by simp [execOp, Act.eval, d3, d5, go_sem] <;> rfl) ((HG.out u1).mono ?_)
      rintro e u' ⟨rfl, h2⟩
      exact ⟨_, rfl, _, rfl, ⟨.inr (h5.ext h2), there_but (F := fun _ => False) (But.of_below h2) (fun h => h) (there_lt hinv.2 (by decide)) hinv.2⟩, gg_call (F := fun _ => False) (fun h => h) (fun h => h.ext h2) (But.of_below h2), HV.out.symm⟩
    · cases ho
      have d6 : b.tmps.getD 52 undef = lfV f := hdep 6 (by kernel_rfl)
      obtain ⟨hi1, hi2⟩ := hinv
      have hr := World.rangeAt_setCells_same u1 u.heap.size 0 (lfL f) hi2
      refine wp_store_mid 73 (.tmp 2) (.tmp 52) rfl u.heap.size 0 (lfL f).toArray b2 d6 hi2 info_lf (lf_one f) ⟨_, rfl, ⟨?_, ?_⟩, ⟨fun h => ?_, fun _ => hr⟩, hr⟩
      · exact hi1.elim (fun h => .inl (h.cells (Nat.le_refl _) HLT.out _ _)) (fun h => .inr (h.cells (Nat.le_refl _) HLT.out _ _))
      · exact World.there_setCells hi2 _ _ _
      · exact h.cells (Nat.le_refl _) HLT.out _ _
  · intro ff u1 hinv hVV
    have h5 := (hVV 5 (by decide)).2
    have h7 := hVV 7 (by decide)
    generalize hbb : laid _ ff _ _ = b
    have b2 : b.tmps.getD 2 undef = .pointer (some ⟨u.heap.size, 0, none⟩) := by rw [← hbb]; kernel_rfl
    have bd : b.defers = [] := by rw [← hbb]; kernel_rfl
    clear hbb
    have hl := load_lf h7
    have HL := Lib.hid hl
    have H5 := Lib.hid h5
    clear hl h5 h7 hinv hVV
    go_wp2_with fail
    exact bodyPost_ret (results_cell rfl b2 HL.out) bd ⟨by rw [HV.out], H5.out⟩
set_option maxRecDepth 100000 in
set_option maxHeartbeats 1000000 in
theorem dform_209 (w0 : World) (L : Nat) (bs : Nat → Int) (hb : ∀ i, 0 ≤ bs i ∧ bs i < 256) (B : Nat) (s : RS) (u : World) (h : Rd w0 L bs B s u) (hz : (numS L bs 1 s).1 = 209) :
    Calls Try.prog 28 #[.pointer (some ⟨B, 0, none⟩)] u fun e w' => e = .returned (lfV (formS L bs s).1) ∧ RTo w0 L bs B (formS L bs s).2 u w' := by
  obtain ⟨t, hT⟩ : ∃ t, (numS L bs 1 s).2 = t := ⟨_, rfl⟩
  have hF : formS L bs s = (grpL 209 (memS L bs { t with opc := 209 }).1, (memS L bs { t with opc := 209 }).2) := by
    unfold formS
    simp only [hz, hT]
    rfl
  rw [hF]
  clear hF
  have HN := Lib.hid (fun o => dnext_any w0 L bs hb B s (u.alloc o) (h.alloc o))
  rw [hz, hT] at HN
  have HX := Lib.hid (fun (W : World) (hW : Rd w0 L bs B { t with opc := 209 } W) => dmember_any w0 L bs hb B _ W hW)
  have hy : 0 ≤ (memS L bs { t with opc := 209 }).1 ∧ (memS L bs { t with opc := 209 }).1 < 8 := memS_bd L bs _
  have ho : (memS L bs { t with opc := 209 }).2.opc = 209 := memS_opc L bs _
  have hqq := memS_again L bs { t with opc := 209 }
  generalize memS L bs { t with opc := 209 } = p at *
  obtain ⟨y, q⟩ := p
  replace hy : 0 ≤ y ∧ y < 8 := hy
  replace ho : q.opc = 209 := ho
  have HO := Lib.hid ho
  replace hqq : memS L bs q = (y, q) := hqq
  have HXQ := fun (W : World) (hW : Rd w0 L bs B q W) => dmember_any w0 L bs hb B q W hW
  rw [hqq] at HXQ
  have HXQ := Lib.hid HXQ
  show Calls _ _ _ _ fun e w' => e = .returned (lfV (grpL 209 y)) ∧ RTo w0 L bs B q u w'
  have HX : Hid (∀ W, Rd w0 L bs B { t with opc := 209 } W → Calls Try.prog 47 #[.pointer (some ⟨B, 0, none⟩)] W fun e w' => e = .returned (.int .i64 y) ∧ RTo w0 L bs B q W w') := HX
  have HG := Lib.hid (fun W => dgrp_any 209 y rfl hy.1 hy.2 W)
  generalize hV : lfV (grpL 209 y) = V at *
  obtain ⟨f, hf⟩ : ∃ f, grpL 209 y = f := ⟨_, rfl⟩
  rw [hf] at hV
  have HV := Lib.hid hV
  have hlt := h.lt
  clear h hb hz hT hy ho hf hV hqq
  go_enter Try.func28, Try.ntmps28
  go_wp2_with fail
  refine (HN.out _).mono ?_
  rintro e w1 ⟨rfl, h1⟩
  obtain ⟨v1, hB1, hs1⟩ := h1.rd.at_
  obtain ⟨c0, c1, c2, c3⟩ := hB1.cells
  have z1 := hB1.froz 1
  have H1 := Lib.hid (h1.set (t := { t with opc := 209 }) 1 (.int .i64 209) rfl (fun _ => rfl))
  clear h1 hB1 hs1 c0 c2 c3
  have hne : u.heap.size ≠ B := by omega
  have HLT := Lib.hid hlt
  have HZ := Lib.hid (there_to (n := 7) H1.out hlt (by decide))
  have H1 := Lib.hid H1.out.first
  clear hlt
  go_upto_region 24 with (fail)
  clear c1 z1
  refine wp_region_vals (by kernel_rfl) (fun i => i == 7) (by kernel_rfl) (GInv w0 L bs B u { t with opc := 209 } q) (GG w0 L bs B u q f) (GV w0 L bs B u q f 209 y) gv_stays gg_refl ?_ ?_ ?_
  · exact ⟨.inl (RTo.drawn H1.out), HZ.out⟩
  · intro i o b u1 ho hinv hsz hbase hdep
    have hi : i < 8 := (Array.getElem?_eq_some_iff.1 ho).1
    have b0 : b.tmps.getD 0 undef = .pointer (some ⟨B, 0, none⟩) := hbase 0 (by kernel_rfl)
    have b2 : b.tmps.getD 2 undef = .pointer (some ⟨u.heap.size, 0, none⟩) := hbase 2 (by kernel_rfl)
    clear hbase hsz
    have h8 : i = 0 ∨ i = 1 ∨ i = 2 ∨ i = 3 ∨ i = 4 ∨ i = 5 ∨ i = 6 ∨ i = 7 := by omega
    rcases h8 with rfl | rfl | rfl | rfl | rfl | rfl | rfl | rfl
    · cases ho
      exact wp_val (by simp [execOp, Act.eval, b0] <;> rfl) ⟨_, rfl, hinv, gg_refl _, rfl⟩
    · cases ho
      have d0 : b.tmps.getD 46 undef = .pointer (some ⟨B, 0, none⟩) := hdep 0 (by kernel_rfl)
      exact wp_val (by simp [execOp, Act.eval, d0, go_sem] <;> rfl) ⟨_, rfl, hinv, gg_refl _, rfl⟩
    · cases ho
      have d1 : b.tmps.getD 47 undef = .pointer (some ⟨B, 0, none⟩) := hdep 1 (by kernel_rfl)
      exact wp_val (by simp [execOp, Act.eval, d1, go_sem] <;> rfl) ⟨_, rfl, hinv, gg_refl _, rfl⟩
    · cases ho
      have d2 : b.tmps.getD 48 undef = .pointer (some ⟨B, 1, none⟩) := hdep 2 (by kernel_rfl)
      have c1 := hinv.opc (z := 209) rfl HO.out
      exact wp_val (by simp [execOp, Act.eval, d2, go_sem, c1] <;> rfl) ⟨_, rfl, hinv, gg_refl _, rfl⟩
    · cases ho
      exact wp_val (by simp [execOp, Act.eval, b0] <;> rfl) ⟨_, rfl, hinv, gg_refl _, rfl⟩
    · cases ho
      have d4 : b.tmps.getD 50 undef = .pointer (some ⟨B, 0, none⟩) := hdep 4 (by kernel_rfl)
      obtain ⟨hi1, hi2⟩ := hinv
      rcases hi1 with hi1 | hi1
      · refine wp_call (by simp [execOp, Act.eval, d4, go_sem] <;> rfl) ((HX.out u1 hi1.rd).mono ?_)
        rintro e u' ⟨rfl, h2⟩
        exact ⟨_, rfl, _, rfl, ⟨.inr (hi1.trans h2), there_but h2.but hne (there_lt hi2 (by decide)) hi2⟩, gg_call hne (fun _ => hi1.trans h2) h2.but, rfl, hi1.trans h2⟩
      · refine wp_call (by simp [execOp, Act.eval, d4, go_sem] <;> rfl) ((HXQ.out u1 hi1.rd).mono ?_)
        rintro e u' ⟨rfl, h2⟩
        exact ⟨_, rfl, _, rfl, ⟨.inr (hi1.trans h2), there_but h2.but hne (there_lt hi2 (by decide)) hi2⟩, gg_call hne (fun _ => hi1.trans h2) h2.but, rfl, hi1.trans h2⟩
    · cases ho
      have d3 : b.tmps.getD 49 undef = .int .i64 209 := hdep 3 (by kernel_rfl)
      have d5 : b.tmps.getD 51 undef = .int .i64 y := (hdep 5 (by kernel_rfl)).1
      have h5 : RTo w0 L bs B q u u1 := (hdep 5 (by kernel_rfl)).2
      refine wp_call (by simp [execOp, Act.eval, d3, d5, go_sem] <;> rfl) ((HG.out u1).mono ?_)
      rintro e u' ⟨rfl, h2⟩
      exact ⟨_, rfl, _, rfl, ⟨.inr (h5.ext h2), there_but (F := fun _ => False) (But.of_below h2) (fun h => h) (there_lt hinv.2 (by decide)) hinv.2⟩, gg_call (F := fun _ => False) (fun h => h) (fun h => h.ext h2) (But.of_below h2), HV.out.symm⟩
    · cases ho
      have d6 : b.tmps.getD 52 undef = lfV f := hdep 6 (by kernel_rfl)
      obtain ⟨hi1, hi2⟩ := hinv
      have hr := World.rangeAt_setCells_same u1 u.heap.size 0 (lfL f) hi2
      refine wp_store_mid 73 (.tmp 2) (.tmp 52) rfl u.heap.size 0 (lfL f).toArray b2 d6 hi2 info_lf (lf_one f) ⟨_, rfl, ⟨?_, ?_⟩, ⟨fun h => ?_, fun _ => hr⟩, hr⟩
      · exact hi1.elim (fun h => .inl (h.cells (Nat.le_refl _) HLT.out _ _)) (fun h => .inr (h.cells (Nat.le_refl _) HLT.out _ _))
      · exact World.there_setCells hi2 _ _ _
      · exact h.cells (Nat.le_refl _) HLT.out _ _
  · intro ff u1 hinv hVV
    have h5 := (hVV 5 (by decide)).2
    have h7 := hVV 7 (by decide)
    generalize hbb : laid _ ff _ _ = b
    have b2 : b.tmps.getD 2 undef = .pointer (some ⟨u.heap.size, 0, none⟩) := by rw [← hbb]; kernel_rfl
    have bd : b.defers = [] := by rw [← hbb]; kernel_rfl
    clear hbb
    have hl := load_lf h7
    have HL := Lib.hid hl
    have H5 := Lib.hid h5
    clear hl h5 h7 hinv hVV
    go_wp2_with fail
    exact bodyPost_ret (results_cell rfl b2 HL.out) bd ⟨by rw [HV.out], H5.out⟩
set_option maxRecDepth 100000 in
set_option maxHeartbeats 1000000 in
theorem dform_247 (w0 : World) (L : Nat) (bs : Nat → Int) (hb : ∀ i, 0 ≤ bs i ∧ bs i < 256) (B : Nat) (s : RS) (u : World) (h : Rd w0 L bs B s u) (hz : (numS L bs 1 s).1 = 247) :
    Calls Try.prog 28 #[.pointer (some ⟨B, 0, none⟩)] u fun e w' => e = .returned (lfV (formS L bs s).1) ∧ RTo w0 L bs B (formS L bs s).2 u w' := by
  obtain ⟨t, hT⟩ : ∃ t, (numS L bs 1 s).2 = t := ⟨_, rfl⟩
  have hF : formS L bs s = (grpL 247 (memS L bs { t with opc := 247 }).1, (memS L bs { t with opc := 247 }).2) := by
    unfold formS
    simp only [hz, hT]
    rfl
  rw [hF]
  clear hF
  have HN := Lib.hid (fun o => dnext_any w0 L bs hb B s (u.alloc o) (h.alloc o))
  rw [hz, hT] at HN
  have HX := Lib.hid (fun (W : World) (hW : Rd w0 L bs B { t with opc := 247 } W) => dmember_any w0 L bs hb B _ W hW)
  have hy : 0 ≤ (memS L bs { t with opc := 247 }).1 ∧ (memS L bs { t with opc := 247 }).1 < 8 := memS_bd L bs _
  have ho : (memS L bs { t with opc := 247 }).2.opc = 247 := memS_opc L bs _
  have hqq := memS_again L bs { t with opc := 247 }
  generalize memS L bs { t with opc := 247 } = p at *
  obtain ⟨y, q⟩ := p
  replace hy : 0 ≤ y ∧ y < 8 := hy
  replace ho : q.opc = 247 := ho
  have HO := Lib.hid ho
  replace hqq : memS L bs q = (y, q) := hqq
  have HXQ := fun (W : World) (hW : Rd w0 L bs B q W) => dmember_any w0 L bs hb B q W hW
  rw [hqq] at HXQ
  have HXQ := Lib.hid HXQ
  show Calls _ _ _ _ fun e w' => e = .returned (lfV (grpL 247 y)) ∧ RTo w0 L bs B q u w'
  have HX : Hid (∀ W, Rd w0 L bs B { t with opc := 247 } W → Calls Try.prog 47 #[.pointer (some ⟨B, 0, none⟩)] W fun e w' => e = .returned (.int .i64 y) ∧ RTo w0 L bs B q W w') := HX
  have HG := Lib.hid (fun W => dgrp_any 247 y rfl hy.1 hy.2 W)
  generalize hV : lfV (grpL 247 y) = V at *
  obtain ⟨f, hf⟩ : ∃ f, grpL 247 y = f := ⟨_, rfl⟩
  rw [hf] at hV
  have HV := Lib.hid hV
  have hlt := h.lt
  clear h hb hz hT hy ho hf hV hqq
  go_enter Try.func28, Try.ntmps28
  go_wp2_with fail
  refine (HN.out _).mono ?_
  rintro e w1 ⟨rfl, h1⟩
  obtain ⟨v1, hB1, hs1⟩ := h1.rd.at_
  obtain ⟨c0, c1, c2, c3⟩ := hB1.cells
  have z1 := hB1.froz 1
  have H1 := Lib.hid (h1.set (t := { t with opc := 247 }) 1 (.int .i64 247) rfl (fun _ => rfl))
  clear h1 hB1 hs1 c0 c2 c3
  have hne : u.heap.size ≠ B := by omega
  have HLT := Lib.hid hlt
  have HZ := Lib.hid (there_to (n := 7) H1.out hlt (by decide))
  have H1 := Lib.hid H1.out.first
  clear hlt
  go_upto_region 24 with (fail)
  clear c1 z1
  refine wp_region_vals (by kernel_rfl) (fun i => i == 7) (by kernel_rfl) (GInv w0 L bs B u { t with opc := 247 } q) (GG w0 L bs B u q f) (GV w0 L bs B u q f 247 y) gv_stays gg_refl ?_ ?_ ?_
  · exact ⟨.inl (RTo.drawn H1.out), HZ.out⟩
  · intro i o b u1 ho hinv hsz hbase hdep
    have hi : i < 8 := (Array.getElem?_eq_some_iff.1 ho).1
    have b0 : b.tmps.getD 0 undef = .pointer (some ⟨B, 0, none⟩) := hbase 0 (by kernel_rfl)
    have b2 : b.tmps.getD 2 undef = .pointer (some ⟨u.heap.size, 0, none⟩) := hbase 2 (by kernel_rfl)
    clear hbase hsz
    have h8 : i = 0 ∨ i = 1 ∨ i = 2 ∨ i = 3 ∨ i = 4 ∨ i = 5 ∨ i = 6 ∨ i = 7 := by omega
    rcases h8 with rfl | rfl | rfl | rfl | rfl | rfl | rfl | rfl
    · cases ho
      exact wp_val (by simp [execOp, Act.eval, b0] <;> rfl) ⟨_, rfl, hinv, gg_refl _, rfl⟩
    · cases ho
      have d0 : b.tmps.getD 46 undef = .pointer (some ⟨B, 0, none⟩) := hdep 0 (by kernel_rfl)
      exact wp_val (by simp [execOp, Act.eval, d0, go_sem] <;> rfl) ⟨_, rfl, hinv, gg_refl _, rfl⟩
    · cases ho
      have d1 : b.tmps.getD 47 undef = .pointer (some ⟨B, 0, none⟩) := hdep 1 (by kernel_rfl)
      exact wp_val (by simp [execOp, Act.eval, d1, go_sem] <;> rfl) ⟨_, rfl, hinv, gg_refl _, rfl⟩
    · cases ho
      have d2 : b.tmps.getD 48 undef = .pointer (some ⟨B, 1, none⟩) := hdep 2 (by kernel_rfl)
      have c1 := hinv.opc (z := 247) rfl HO.out
      exact wp_val (by simp [execOp, Act.eval, d2, go_sem, c1] <;> rfl) ⟨_, rfl, hinv, gg_refl _, rfl⟩
    · cases ho
      exact wp_val (by simp [execOp, Act.eval, b0] <;> rfl) ⟨_, rfl, hinv, gg_refl _, rfl⟩
    · cases ho
      have d4 : b.tmps.getD 50 undef = .pointer (some ⟨B, 0, none⟩) := hdep 4 (by kernel_rfl)
      obtain ⟨hi1, hi2⟩ := hinv
      rcases hi1 with hi1 | hi1
      · refine wp_call (by simp [execOp, Act.eval, d4, go_sem] <;> rfl) ((HX.out u1 hi1.rd).mono ?_)
        rintro e u' ⟨rfl, h2⟩
        exact ⟨_, rfl, _, rfl, ⟨.inr (hi1.trans h2), there_but h2.but hne (there_lt hi2 (by decide)) hi2⟩, gg_call hne (fun _ => hi1.trans h2) h2.but, rfl, hi1.trans h2⟩
      · refine wp_call (by simp [execOp, Act.eval, d4, go_sem] <;> rfl) ((HXQ.out u1 hi1.rd).mono ?_)
        rintro e u' ⟨rfl, h2⟩
        exact ⟨_, rfl, _, rfl, ⟨.inr (hi1.trans h2), there_but h2.but hne (there_lt hi2 (by decide)) hi2⟩, gg_call hne (fun _ => hi1.trans h2) h2.but, rfl, hi1.trans h2⟩
    · cases ho
      have d3 : b.tmps.getD 49 undef = .int .i64 247 := hdep 3 (by kernel_rfl)
      have d5 : b.tmps.getD 51 undef = .int .i64 y := (hdep 5 (by kernel_rfl)).1
      have h5 : RTo w0 L bs B q u u1 := (hdep 5 (by kernel_rfl)).2
      refine wp_call (by simp [execOp, Act.eval, d3, d5, go_sem] <;> rfl) ((HG.out u1).mono ?_)
      rintro e u' ⟨rfl, h2⟩
      exact ⟨_, rfl, _, rfl, ⟨.inr (h5.ext h2), there_but (F := fun _ => False) (But.of_below h2) (fun h => h) (there_lt hinv.2 (by decide)) hinv.2⟩, gg_call (F := fun _ => False) (fun h => h) (fun h => h.ext h2) (But.of_below h2), HV.out.symm⟩
    · cases ho
      have d6 : b.tmps.getD 52 undef = lfV f := hdep 6 (by kernel_rfl)
      obtain ⟨hi1, hi2⟩ := hinv
      have hr := World.rangeAt_setCells_same u1 u.heap.size 0 (lfL f) hi2
      refine wp_store_mid 73 (.tmp 2) (.tmp 52) rfl u.heap.size 0 (lfL f).toArray b2 d6 hi2 info_lf (lf_one f) ⟨_, rfl, ⟨?_, ?_⟩, ⟨fun h => ?_, fun _ => hr⟩, hr⟩
      · exact hi1.elim (fun h => .inl (h.cells (Nat.le_refl _) HLT.out _ _)) (fun h => .inr (h.cells (Nat.le_refl _) HLT.out _ _))
      · exact World.there_setCells hi2 _ _ _
      · exact h.cells (Nat.le_refl _) HLT.out _ _
  · intro ff u1 hinv hVV
    have h5 := (hVV 5 (by decide)).2
    have h7 := hVV 7 (by decide)
    generalize hbb : laid _ ff _ _ = b
    have b2 : b.tmps.getD 2 undef = .pointer (some ⟨u.heap.size, 0, none⟩) := by rw [← hbb]; kernel_rfl
    have bd : b.defers = [] := by rw [← hbb]; kernel_rfl
    clear hbb
    have hl := load_lf h7
    have HL := Lib.hid hl
    have H5 := Lib.hid h5
    clear hl h5 h7 hinv hVV
    go_wp2_with fail
    exact bodyPost_ret (results_cell rfl b2 HL.out) bd ⟨by rw [HV.out], H5.out⟩
end Go.Proofs.Ytlhfpfiehgcciaa
namespace Go.Proofs.Ytlhfpfiehgcciaa
open Go.ChangeShapes Go.WideShapes Go.ChangeAt Go.RowKit

attribute [local go_sem] isSome_setCell
set_option maxRecDepth 100000 in
set_option maxHeartbeats 1000000 in
theorem dform_131 (w0 : World) (L : Nat) (bs : Nat → Int) (hb : ∀ i, 0 ≤ bs i ∧ bs i < 256) (B : Nat) (s : RS) (u : World) (h : Rd w0 L bs B s u) (hz : (numS L bs 1 s).1 = 131) :
    Calls Try.prog 28 #[.pointer (some ⟨B, 0, none⟩)] u fun e w' => e = .returned (lfV (formS L bs s).1) ∧ RTo w0 L bs B (formS L bs s).2 u w' := by
  obtain ⟨t, hT⟩ : ∃ t, (numS L bs 1 s).2 = t := ⟨_, rfl⟩
  have hF : formS L bs s = (grpL 131 (memS L bs { t with opc := 131 }).1, (memS L bs { t with opc := 131 }).2) := by
    unfold formS
    simp only [hz, hT]
    rfl
  rw [hF]
  clear hF
  have HN := Lib.hid (fun o => dnext_any w0 L bs hb B s (u.alloc o) (h.alloc o))
  rw [hz, hT] at HN
  have HX := Lib.hid (fun (W : World) (hW : Rd w0 L bs B { t with opc := 131 } W) => dmember_any w0 L bs hb B _ W hW)
  have hy : 0 ≤ (memS L bs { t with opc := 131 }).1 ∧ (memS L bs { t with opc := 131 }).1 < 8 := memS_bd L bs _
  have ho : (memS L bs { t with opc := 131 }).2.opc = 131 := memS_opc L bs _
  have hqq := memS_again L bs { t with opc := 131 }
  generalize memS L bs { t with opc := 131 } = p at *
  obtain ⟨y, q⟩ := p
  replace hy : 0 ≤ y ∧ y < 8 := hy
  replace ho : q.opc = 131 := ho
  have HO := Lib.hid ho
  replace hqq : memS L bs q = (y, q) := hqq
  have HXQ := fun (W : World) (hW : Rd w0 L bs B q W) => dmember_any w0 L bs hb B q W hW
  rw [hqq] at HXQ
  have HXQ := Lib.hid HXQ
  show Calls _ _ _ _ fun e w' => e = .returned (lfV (grpL 131 y)) ∧ RTo w0 L bs B q u w'
  have HX : Hid (∀ W, Rd w0 L bs B { t with opc := 131 } W → Calls Try.prog 47 #[.pointer (some ⟨B, 0, none⟩)] W fun e w' => e = .returned (.int .i64 y) ∧ RTo w0 L bs B q W w') := HX
  have HG := Lib.hid (fun W => dgrp_any 131 y rfl hy.1 hy.2 W)
  generalize hV : lfV (grpL 131 y) = V at *
  obtain ⟨f, hf⟩ : ∃ f, grpL 131 y = f := ⟨_, rfl⟩
  rw [hf] at hV
  have HV := Lib.hid hV
  have hlt := h.lt
  clear h hb hz hT hy ho hf hV hqq
  go_enter Try.func28, Try.ntmps28
  go_wp2_with fail
  refine (HN.out _).mono ?_
  rintro e w1 ⟨rfl, h1⟩
  obtain ⟨v1, hB1, hs1⟩ := h1.rd.at_
  obtain ⟨c0, c1, c2, c3⟩ := hB1.cells
  have z1 := hB1.froz 1
  have H1 := Lib.hid (h1.set (t := { t with opc := 131 }) 1 (.int .i64 131) rfl (fun _ => rfl))
  clear h1 hB1 hs1 c0 c2 c3
  have hne : u.heap.size ≠ B := by omega
  have HLT := Lib.hid hlt
  have HZ := Lib.hid (there_to (n := 7) H1.out hlt (by decide))
  have H1 := Lib.hid H1.out.first
  clear hlt
  go_upto_region 24 with (fail)
  clear c1 z1
  refine wp_region_vals (by kernel_rfl) (fun i => i == 7) (by kernel_rfl) (GInv w0 L bs B u { t with opc := 131 } q) (GG w0 L bs B u q f) (GV w0 L bs B u q f 131 y) gv_stays gg_refl ?_ ?_ ?_
  · exact ⟨.inl (RTo.drawn H1.out), HZ.out⟩
  · intro i o b u1 ho hinv hsz hbase hdep
    have hi : i < 8 := (Array.getElem?_eq_some_iff.1 ho).1
    have b0 : b.tmps.getD 0 undef = .pointer (some ⟨B, 0, none⟩) := hbase 0 (by kernel_rfl)
    have b2 : b.tmps.getD 2 undef = .pointer (some ⟨u.heap.size, 0, none⟩) := hbase 2 (by kernel_rfl)
    clear hbase hsz
    have h8 : i = 0 ∨ i = 1 ∨ i = 2 ∨ i = 3 ∨ i = 4 ∨ i = 5 ∨ i = 6 ∨ i = 7 := by omega
    rcases h8 with rfl | rfl | rfl | rfl | rfl | rfl | rfl | rfl
    · cases ho
      exact wp_val (by simp [execOp, Act.eval, b0] <;> rfl) ⟨_, rfl, hinv, gg_refl _, rfl⟩
    · cases ho
      have d0 : b.tmps.getD 46 undef = .pointer (some ⟨B, 0, none⟩) := hdep 0 (by kernel_rfl)
      exact wp_val (by simp [execOp, Act.eval, d0, go_sem] <;> rfl) ⟨_, rfl, hinv, gg_refl _, rfl⟩
    · cases ho
      have d1 : b.tmps.getD 47 undef = .pointer (some ⟨B, 0, none⟩) := hdep 1 (by kernel_rfl)
      exact wp_val (by simp [execOp, Act.eval, d1, go_sem] <;> rfl) ⟨_, rfl, hinv, gg_refl _, rfl⟩
    · cases ho
      have d2 : b.tmps.getD 48 undef = .pointer (some ⟨B, 1, none⟩) := hdep 2 (by kernel_rfl)
      have c1 := hinv.opc (z := 131) rfl HO.out
      exact wp_val (by simp [execOp, Act.eval, d2, go_sem, c1] <;> rfl) ⟨_, rfl, hinv, gg_refl _, rfl⟩
    · cases ho
      exact wp_val (by simp [execOp, Act.eval, b0] <;> rfl) ⟨_, rfl, hinv, gg_refl _, rfl⟩
    · cases ho
      have d4 : b.tmps.getD 50 undef = .pointer (some ⟨B, 0, none⟩) := hdep 4 (by kernel_rfl)
      obtain ⟨hi1, hi2⟩ := hinv
      rcases hi1 with hi1 | hi1
      · refine wp_call (by simp [execOp, Act.eval, d4, go_sem] <;> rfl) ((HX.out u1 hi1.rd).mono ?_)
        rintro e u' ⟨rfl, h2⟩
        exact ⟨_, rfl, _, rfl, ⟨.inr (hi1.trans h2), there_but h2.but hne (there_lt hi2 (by decide)) hi2⟩, gg_call hne (fun _ => hi1.trans h2) h2.but, rfl, hi1.trans h2⟩
      · refine wp_call (by simp [execOp, Act.eval, d4, go_sem] <;> rfl) ((HXQ.out u1 hi1.rd).mono ?_)
        rintro e u' ⟨rfl, h2⟩
        exact ⟨_, rfl, _, rfl, ⟨.inr (hi1.trans h2), there_but h2.but hne (there_lt hi2 (by decide)) hi2⟩, gg_call hne (fun _ => hi1.trans h2) h2.but, rfl, hi1.trans h2⟩
    · cases ho
      have d3 : b.tmps.getD 49 undef = .int .i64 131 := hdep 3 (by kernel_rfl)
      have d5 : b.tmps.getD 51 undef = .int .i64 y := (hdep 5 (by kernel_rfl)).1
      have h5 : RTo w0 L bs B q u u1 := (hdep 5 (by kernel_rfl)).2
      refine wp_call (by simp [execOp, Act.eval, d3, d5, go_sem] <;> rfl) ((HG.out u1).mono ?_)
      rintro e u' ⟨rfl, h2⟩
      exact ⟨_, rfl, _, rfl, ⟨.inr (h5.ext h2), there_but (F := fun _ => False) (But.of_below h2) (fun h => h) (there_lt hinv.2 (by decide)) hinv.2⟩, gg_call (F := fun _ => False) (fun h => h) (fun h => h.ext h2) (But.of_below h2), HV.out.symm⟩
    · cases ho
      have d6 : b.tmps.getD 52 undef = lfV f := hdep 6 (by kernel_rfl)
      obtain ⟨hi1, hi2⟩ := hinv
      have hr := World.rangeAt_setCells_same u1 u.heap.size 0 (lfL f) hi2
      refine wp_store_mid 73 (.tmp 2) (.tmp 52) rfl u.heap.size 0 (lfL f).toArray b2 d6 hi2 info_lf (lf_one f) ⟨_, rfl, ⟨?_, ?_⟩, ⟨fun h => ?_, fun _ => hr⟩, hr⟩
      · exact hi1.elim (fun h => .inl (h.cells (Nat.le_refl _) HLT.out _ _)) (fun h => .inr (h.cells (Nat.le_refl _) HLT.out _ _))
      · exact World.there_setCells hi2 _ _ _
      · exact h.cells (Nat.le_refl _) HLT.out _ _
  · intro ff u1 hinv hVV
    have h5 := (hVV 5 (by decide)).2
    have h7 := hVV 7 (by decide)
    generalize hbb : laid _ ff _ _ = b
    have b2 : b.tmps.getD 2 undef = .pointer (some ⟨u.heap.size, 0, none⟩) := by rw [← hbb]; kernel_rfl
    have bd : b.defers = [] := by rw [← hbb]; kernel_rfl
    clear hbb
    have hl := load_lf h7
    have HL := Lib.hid hl
    have H5 := Lib.hid h5
    clear hl h5 h7 hinv hVV
    go_wp2_with fail
    exact bodyPost_ret (results_cell rfl b2 HL.out) bd ⟨by rw [HV.out], H5.out⟩
set_option maxRecDepth 100000 in
set_option maxHeartbeats 1000000 in
theorem dform_198 (w0 : World) (L : Nat) (bs : Nat → Int) (hb : ∀ i, 0 ≤ bs i ∧ bs i < 256) (B : Nat) (s : RS) (u : World) (h : Rd w0 L bs B s u) (hz : (numS L bs 1 s).1 = 198) :
    Calls Try.prog 28 #[.pointer (some ⟨B, 0, none⟩)] u fun e w' => e = .returned (lfV (formS L bs s).1) ∧ RTo w0 L bs B (formS L bs s).2 u w' := by
  obtain ⟨t, hT⟩ : ∃ t, (numS L bs 1 s).2 = t := ⟨_, rfl⟩
  have hF : formS L bs s = (grpL 198 (memS L bs { t with opc := 198 }).1, (memS L bs { t with opc := 198 }).2) := by
    unfold formS
    simp only [hz, hT]
    rfl
  rw [hF]
  clear hF
  have HN := Lib.hid (fun o => dnext_any w0 L bs hb B s (u.alloc o) (h.alloc o))
  rw [hz, hT] at HN
  have HX := Lib.hid (fun (W : World) (hW : Rd w0 L bs B { t with opc := 198 } W) => dmember_any w0 L bs hb B _ W hW)
  have hy : 0 ≤ (memS L bs { t with opc := 198 }).1 ∧ (memS L bs { t with opc := 198 }).1 < 8 := memS_bd L bs _
  have ho : (memS L bs { t with opc := 198 }).2.opc = 198 := memS_opc L bs _
  have hqq := memS_again L bs { t with opc := 198 }
  generalize memS L bs { t with opc := 198 } = p at *
  obtain ⟨y, q⟩ := p
  replace hy : 0 ≤ y ∧ y < 8 := hy
  replace ho : q.opc = 198 := ho
  have HO := Lib.hid ho
  replace hqq : memS L bs q = (y, q) := hqq
  have HXQ := fun (W : World) (hW : Rd w0 L bs B q W) => dmember_any w0 L bs hb B q W hW
  rw [hqq] at HXQ
  have HXQ := Lib.hid HXQ
  show Calls _ _ _ _ fun e w' => e = .returned (lfV (grpL 198 y)) ∧ RTo w0 L bs B q u w'
  have HX : Hid (∀ W, Rd w0 L bs B { t with opc := 198 } W → Calls Try.prog 47 #[.pointer (some ⟨B, 0, none⟩)] W fun e w' => e = .returned (.int .i64 y) ∧ RTo w0 L bs B q W w') := HX
  have HG := Lib.hid (fun W => dgrp_any 198 y rfl hy.1 hy.2 W)
  generalize hV : lfV (grpL 198 y) = V at *
  obtain ⟨f, hf⟩ : ∃ f, grpL 198 y = f := ⟨_, rfl⟩
  rw [hf] at hV
  have HV := Lib.hid hV
  have hlt := h.lt
  clear h hb hz hT hy ho hf hV hqq
  go_enter Try.func28, Try.ntmps28
  go_wp2_with fail
  refine (HN.out _).mono ?_
  rintro e w1 ⟨rfl, h1⟩
  obtain ⟨v1, hB1, hs1⟩ := h1.rd.at_
  obtain ⟨c0, c1, c2, c3⟩ := hB1.cells
  have z1 := hB1.froz 1
  have H1 := Lib.hid (h1.set (t := { t with opc := 198 }) 1 (.int .i64 198) rfl (fun _ => rfl))
  clear h1 hB1 hs1 c0 c2 c3
  have hne : u.heap.size ≠ B := by omega
  have HLT := Lib.hid hlt
  have HZ := Lib.hid (there_to (n := 7) H1.out hlt (by decide))
  have H1 := Lib.hid H1.out.first
  clear hlt
  go_upto_region 24 with (fail)
  clear c1 z1
  refine wp_region_vals (by kernel_rfl) (fun i => i == 7) (by kernel_rfl) (GInv w0 L bs B u { t with opc := 198 } q) (GG w0 L bs B u q f) (GV w0 L bs B u q f 198 y) gv_stays gg_refl ?_ ?_ ?_
  · exact ⟨.inl (RTo.drawn H1.out), HZ.out⟩
  · intro i o b u1 ho hinv hsz hbase hdep
    have hi : i < 8 := (Array.getElem?_eq_some_iff.1 ho).1
    have b0 : b.tmps.getD 0 undef = .pointer (some ⟨B, 0, none⟩) := hbase 0 (by kernel_rfl)
    have b2 : b.tmps.getD 2 undef = .pointer (some ⟨u.heap.size, 0, none⟩) := hbase 2 (by kernel_rfl)
    clear hbase hsz
    have h8 : i = 0 ∨ i = 1 ∨ i = 2 ∨ i = 3 ∨ i = 4 ∨ i = 5 ∨ i = 6 ∨ i = 7 := by omega
    rcases h8 with rfl | rfl | rfl | rfl | rfl | rfl | rfl | rfl
    · cases ho
      exact wp_val (by simp [execOp, Act.eval, b0] <;> rfl) ⟨_, rfl, hinv, gg_refl _, rfl⟩
    · cases ho
      have d0 : b.tmps.getD 46 undef = .pointer (some ⟨B, 0, none⟩) := hdep 0 (by kernel_rfl)
      exact wp_val (by simp [execOp, Act.eval, d0, go_sem] <;> rfl) ⟨_, rfl, hinv, gg_refl _, rfl⟩
    · cases ho
      have d1 : b.tmps.getD 47 undef = .pointer (some ⟨B, 0, none⟩) := hdep 1 (by kernel_rfl)
      exact wp_val (by simp [execOp, Act.eval, d1, go_sem] <;> rfl) ⟨_, rfl, hinv, gg_refl _, rfl⟩
    · cases ho
      have d2 : b.tmps.getD 48 undef = .pointer (some ⟨B, 1, none⟩) := hdep 2 (by kernel_rfl)
      have c1 := hinv.opc (z := 198) rfl HO.out
      exact wp_val (by simp [execOp, Act.eval, d2, go_sem, c1] <;> rfl) ⟨_, rfl, hinv, gg_refl _, rfl⟩
    · cases ho
      exact wp_val (by simp [execOp, Act.eval, b0] <;> rfl) ⟨_, rfl, hinv, gg_refl _, rfl⟩
    · cases ho
      have d4 : b.tmps.getD 50 undef = .pointer (some ⟨B, 0, none⟩) := hdep 4 (by kernel_rfl)
      obtain ⟨hi1, hi2⟩ := hinv
      rcases hi1 with hi1 | hi1
      · refine wp_call (by simp [execOp, Act.eval, d4, go_sem] <;> rfl) ((HX.out u1 hi1.rd).mono ?_)
        rintro e u' ⟨rfl, h2⟩
        exact ⟨_, rfl, _, rfl, ⟨.inr (hi1.trans h2), there_but h2.but hne (there_lt hi2 (by decide)) hi2⟩, gg_call hne (fun _ => hi1.trans h2) h2.but, rfl, hi1.trans h2⟩
      · refine wp_call (by simp [execOp, Act.eval, d4, go_sem] <;> rfl) ((HXQ.out u1 hi1.rd).mono ?_)
        rintro e u' ⟨rfl, h2⟩
        exact ⟨_, rfl, _, rfl, ⟨.inr (hi1.trans h2), there_but h2.but hne (there_lt hi2 (by decide)) hi2⟩, gg_call hne (fun _ => hi1.trans h2) h2.but, rfl, hi1.trans h2⟩
    · cases ho
      have d3 : b.tmps.getD 49 undef = .int .i64 198 := hdep 3 (by kernel_rfl)
      have d5 : b.tmps.getD 51 undef = .int .i64 y := (hdep 5 (by kernel_rfl)).1
      have h5 : RTo w0 L bs B q u u1 := (hdep 5 (by kernel_rfl)).2
      refine wp_call (by simp [execOp, Act.eval, d3, d5, go_sem] <;> rfl) ((HG.out u1).mono ?_)
      rintro e u' ⟨rfl, h2⟩
      exact ⟨_, rfl, _, rfl, ⟨.inr (h5.ext h2), there_but (F := fun _ => False) (But.of_below h2) (fun h => h) (there_lt hinv.2 (by decide)) hinv.2⟩, gg_call (F := fun _ => False) (fun h => h) (fun h => h.ext h2) (But.of_below h2), HV.out.symm⟩
    · cases ho
      have d6 : b.tmps.getD 52 undef = lfV f := hdep 6 (by kernel_rfl)
      obtain ⟨hi1, hi2⟩ := hinv
      have hr := World.rangeAt_setCells_same u1 u.heap.size 0 (lfL f) hi2
      refine wp_store_mid 73 (.tmp 2) (.tmp 52) rfl u.heap.size 0 (lfL f).toArray b2 d6 hi2 info_lf (lf_one f) ⟨_, rfl, ⟨?_, ?_⟩, ⟨fun h => ?_, fun _ => hr⟩, hr⟩
      · exact hi1.elim (fun h => .inl (h.cells (Nat.le_refl _) HLT.out _ _)) (fun h => .inr (h.cells (Nat.le_refl _) HLT.out _ _))
      · exact World.there_setCells hi2 _ _ _
      · exact h.cells (Nat.le_refl _) HLT.out _ _
  · intro ff u1 hinv hVV
    have h5 := (hVV 5 (by decide)).2
    have h7 := hVV 7 (by decide)
    generalize hbb : laid _ ff _ _ = b
    have b2 : b.tmps.getD 2 undef = .pointer (some ⟨u.heap.size, 0, none⟩) := by rw [← hbb]; kernel_rfl
    have bd : b.defers = [] := by rw [← hbb]; kernel_rfl
    clear hbb
    have hl := load_lf h7
    have HL := Lib.hid hl
    have H5 := Lib.hid h5
    clear hl h5 h7 hinv hVV
    go_wp2_with fail
    exact bodyPost_ret (results_cell rfl b2 HL.out) bd ⟨by rw [HV.out], H5.out⟩
set_option maxRecDepth 100000 in
set_option maxHeartbeats 1000000 in
theorem dform_211 (w0 : World) (L : Nat) (bs : Nat → Int) (hb : ∀ i, 0 ≤ bs i ∧ bs i < 256) (B : Nat) (s : RS) (u : World) (h : Rd w0 L bs B s u) (hz : (numS L bs 1 s).1 = 211) :
    Calls Try.prog 28 #[.pointer (some ⟨B, 0, none⟩)] u fun e w' => e = .returned (lfV (formS L bs s).1) ∧ RTo w0 L bs B (formS L bs s).2 u w' := by
  obtain ⟨t, hT⟩ : ∃ t, (numS L bs 1 s).2 = t := ⟨_, rfl⟩
  have hF : formS L bs s = (grpL 211 (memS L bs { t with opc := 211 }).1, (memS L bs { t with opc := 211 }).2) := by
    unfold formS
    simp only [hz, hT]
    rfl
  rw [hF]
  clear hF
  have HN := Lib.hid (fun o => dnext_any w0 L bs hb B s (u.alloc o) (h.alloc o))
  rw [hz, hT] at HN
  have HX := Lib.hid (fun (W : World) (hW : Rd w0 L bs B { t with opc := 211 } W) => dmember_any w0 L bs hb B _ W hW)
  have hy : 0 ≤ (memS L bs { t with opc := 211 }).1 ∧ (memS L bs { t with opc := 211 }).1 < 8 := memS_bd L bs _
  have ho : (memS L bs { t with opc := 211 }).2.opc = 211 := memS_opc L bs _
  have hqq := memS_again L bs { t with opc := 211 }
  generalize memS L bs { t with opc := 211 } = p at *
  obtain ⟨y, q⟩ := p
  replace hy : 0 ≤ y ∧ y < 8 := hy
  replace ho : q.opc = 211 := ho
  have HO := Lib.hid ho
  replace hqq : memS L bs q = (y, q) := hqq
  have HXQ := fun (W : World) (hW : Rd w0 L bs B q W) => dmember_any w0 L bs hb B q W hW
  rw [hqq] at HXQ
  have HXQ := Lib.hid HXQ
  show Calls _ _ _ _ fun e w' => e = .returned (lfV (grpL 211 y)) ∧ RTo w0 L bs B q u w'
  have HX : Hid (∀ W, Rd w0 L bs B { t with opc := 211 } W → Calls Try.prog 47 #[.pointer (some ⟨B, 0, none⟩)] W fun e w' => e = .returned (.int .i64 y) ∧ RTo w0 L bs B q W w') := HX
  have HG := Lib.hid (fun W => dgrp_any 211 y rfl hy.1 hy.2 W)
  generalize hV : lfV (grpL 211 y) = V at *
  obtain ⟨f, hf⟩ : ∃ f, grpL 211 y = f := ⟨_, rfl⟩
  rw [hf] at hV
  have HV := Lib.hid hV
  have hlt := h.lt
  clear h hb hz hT hy ho hf hV hqq
  go_enter Try.func28, Try.ntmps28
  go_wp2_with fail
  refine (HN.out _).mono ?_
  rintro e w1 ⟨rfl, h1⟩
  obtain ⟨v1, hB1, hs1⟩ := h1.rd.at_
  obtain ⟨c0, c1, c2, c3⟩ := hB1.cells
  have z1 := hB1.froz 1
  have H1 := Lib.hid (h1.set (t := { t with opc := 211 }) 1 (.int .i64 211) rfl (fun _ => rfl))
  clear h1 hB1 hs1 c0 c2 c3
  have hne : u.heap.size ≠ B := by omega
  have HLT := Lib.hid hlt
  have HZ := Lib.hid (there_to (n := 7) H1.out hlt (by decide))
  have H1 := Lib.hid H1.out.first
  clear hlt
  go_upto_region 24 with (fail)
  clear c1 z1
  refine wp_region_vals (by kernel_rfl) (fun i => i == 7) (by kernel_rfl) (GInv w0 L bs B u { t with opc := 211 } q) (GG w0 L bs B u q f) (GV w0 L bs B u q f 211 y) gv_stays gg_refl ?_ ?_ ?_
  · exact ⟨.inl (RTo.drawn H1.out), HZ.out⟩
  · intro i o b u1 ho hinv hsz hbase hdep
    have hi : i < 8 := (Array.getElem?_eq_some_iff.1 ho).1
    have b0 : b.tmps.getD 0 undef = .pointer (some ⟨B, 0, none⟩) := hbase 0 (by kernel_rfl)
    have b2 : b.tmps.getD 2 undef = .pointer (some ⟨u.heap.size, 0, none⟩) := hbase 2 (by kernel_rfl)
    clear hbase hsz
    have h8 : i = 0 ∨ i = 1 ∨ i = 2 ∨ i = 3 ∨ i = 4 ∨ i = 5 ∨ i = 6 ∨ i = 7 := by omega
    rcases h8 with rfl | rfl | rfl | rfl | rfl | rfl | rfl | rfl
    · cases ho
      exact wp_val (by simp [execOp, Act.eval, b0] <;> rfl) ⟨_, rfl, hinv, gg_refl _, rfl⟩
    · cases ho
      have d0 : b.tmps.getD 46 undef = .pointer (some ⟨B, 0, none⟩) := hdep 0 (by kernel_rfl)
      exact wp_val (by simp [execOp, Act.eval, d0, go_sem] <;> rfl) ⟨_, rfl, hinv, gg_refl _, rfl⟩
    · cases ho
      have d1 : b.tmps.getD 47 undef = .pointer (some ⟨B, 0, none⟩) := hdep 1 (by kernel_rfl)
      exact wp_val (by simp [execOp, Act.eval, d1, go_sem] <;> rfl) ⟨_, rfl, hinv, gg_refl _, rfl⟩
    · cases ho
      have d2 : b.tmps.getD 48 undef = .pointer (some ⟨B, 1, none⟩) := hdep 2 (by kernel_rfl)
      have c1 := hinv.opc (z := 211) rfl HO.out
      exact wp_val (by simp [execOp, Act.eval, d2, go_sem, c1] <;> rfl) ⟨_, rfl, hinv, gg_refl _, rfl⟩
    · cases ho
      exact wp_val (by simp [execOp, Act.eval, b0] <;> rfl) ⟨_, rfl, hinv, gg_refl _, rfl⟩
    · cases ho
      have d4 : b.tmps.getD 50 undef = .pointer (some ⟨B, 0, none⟩) := hdep 4 (by kernel_rfl)
      obtain ⟨hi1, hi2⟩ := hinv
      rcases hi1 with hi1 | hi1
      · refine wp_call (by simp [execOp, Act.eval, d4, go_sem] <;> rfl) ((HX.out u1 hi1.rd).mono ?_)
        rintro e u' ⟨rfl, h2⟩
        exact ⟨_, rfl, _, rfl, ⟨.inr (hi1.trans h2), there_but h2.but hne (there_lt hi2 (by decide)) hi2⟩, gg_call hne (fun _ => hi1.trans h2) h2.but, rfl, hi1.trans h2⟩
      · refine wp_call (by simp [execOp, Act.eval, d4, go_sem] <;> rfl) ((HXQ.out u1 hi1.rd).mono ?_)
        rintro e u' ⟨rfl, h2⟩
        exact ⟨_, rfl, _, rfl, ⟨.inr (hi1.trans h2), there_but h2.but hne (there_lt hi2 (by decide)) hi2⟩, gg_call hne (fun _ => hi1.trans h2) h2.but, rfl, hi1.trans h2⟩
    · cases ho
      have d3 : b.tmps.getD 49 undef = .int .i64 211 := hdep 3 (by kernel_rfl)
      have d5 : b.tmps.getD 51 undef = .int .i64 y := (hdep 5 (by kernel_rfl)).1
      have h5 : RTo w0 L bs B q u u1 := (hdep 5 (by kernel_rfl)).2
      refine wp_call (by simp [execOp, Act.eval, d3, d5, go_sem] <;> rfl) ((HG.out u1).mono ?_)
      rintro e u' ⟨rfl, h2⟩
      exact ⟨_, rfl, _, rfl, ⟨.inr (h5.ext h2), there_but (F := fun _ => False) (But.of_below h2) (fun h => h) (there_lt hinv.2 (by decide)) hinv.2⟩, gg_call (F := fun _ => False) (fun h => h) (fun h => h.ext h2) (But.of_below h2), HV.out.symm⟩
    · cases ho
      have d6 : b.tmps.getD 52 undef = lfV f := hdep 6 (by kernel_rfl)
      obtain ⟨hi1, hi2⟩ := hinv
      have hr := World.rangeAt_setCells_same u1 u.heap.size 0 (lfL f) hi2
      refine wp_store_mid 73 (.tmp 2) (.tmp 52) rfl u.heap.size 0 (lfL f).toArray b2 d6 hi2 info_lf (lf_one f) ⟨_, rfl, ⟨?_, ?_⟩, ⟨fun h => ?_, fun _ => hr⟩, hr⟩
      · exact hi1.elim (fun h => .inl (h.cells (Nat.le_refl _) HLT.out _ _)) (fun h => .inr (h.cells (Nat.le_refl _) HLT.out _ _))
      · exact World.there_setCells hi2 _ _ _
      · exact h.cells (Nat.le_refl _) HLT.out _ _
  · intro ff u1 hinv hVV
    have h5 := (hVV 5 (by decide)).2
    have h7 := hVV 7 (by decide)
    generalize hbb : laid _ ff _ _ = b
    have b2 : b.tmps.getD 2 undef = .pointer (some ⟨u.heap.size, 0, none⟩) := by rw [← hbb]; kernel_rfl
    have bd : b.defers = [] := by rw [← hbb]; kernel_rfl
    clear hbb
    have hl := load_lf h7
    have HL := Lib.hid hl
    have H5 := Lib.hid h5
    clear hl h5 h7 hinv hVV
    go_wp2_with fail
    exact bodyPost_ret (results_cell rfl b2 HL.out) bd ⟨by rw [HV.out], H5.out⟩
set_option maxRecDepth 100000 in
set_option maxHeartbeats 1000000 in
theorem dform_254 (w0 : World) (L : Nat) (bs : Nat → Int) (hb : ∀ i, 0 ≤ bs i ∧ bs i < 256) (B : Nat) (s : RS) (u : World) (h : Rd w0 L bs B s u) (hz : (numS L bs 1 s).1 = 254) :
    Calls Try.prog 28 #[.pointer (some ⟨B, 0, none⟩)] u fun e w' => e = .returned (lfV (formS L bs s).1) ∧ RTo w0 L bs B (formS L bs s).2 u w' := by
  obtain ⟨t, hT⟩ : ∃ t, (numS L bs 1 s).2 = t := ⟨_, rfl⟩
  have hF : formS L bs s = (grpL 254 (memS L bs { t with opc := 254 }).1, (memS L bs { t with opc := 254 }).2) := by
    unfold formS
    simp only [hz, hT]
    rfl
  rw [hF]
  clear hF
  have HN := Lib.hid (fun o => dnext_any w0 L bs hb B s (u.alloc o) (h.alloc o))
  rw [hz, hT] at HN
  have HX := Lib.hid (fun (W : World) (hW : Rd w0 L bs B { t with opc := 254 } W) => dmember_any w0 L bs hb B _ W hW)
  have hy : 0 ≤ (memS L bs { t with opc := 254 }).1 ∧ (memS L bs { t with opc := 254 }).1 < 8 := memS_bd L bs _
  have ho : (memS L bs { t with opc := 254 }).2.opc = 254 := memS_opc L bs _
  have hqq := memS_again L bs { t with opc := 254 }
  generalize memS L bs { t with opc := 254 } = p at *
  obtain ⟨y, q⟩ := p
  replace hy : 0 ≤ y ∧ y < 8 := hy
  replace ho : q.opc = 254 := ho
  have HO := Lib.hid ho
  replace hqq : memS L bs q = (y, q) := hqq
  have HXQ := fun (W : World) (hW : Rd w0 L bs B q W) => dmember_any w0 L bs hb B q W hW
  rw [hqq] at HXQ
  have HXQ := Lib.hid HXQ
  show Calls _ _ _ _ fun e w' => e = .returned (lfV (grpL 254 y)) ∧ RTo w0 L bs B q u w'
  have HX : Hid (∀ W, Rd w0 L bs B { t with opc := 254 } W → Calls Try.prog 47 #[.pointer (some ⟨B, 0, none⟩)] W fun e w' => e = .returned (.int .i64 y) ∧ RTo w0 L bs B q W w') := HX
  have HG := Lib.hid (fun W => dgrp_any 254 y rfl hy.1 hy.2 W)
  generalize hV : lfV (grpL 254 y) = V at *
  obtain ⟨f, hf⟩ : ∃ f, grpL 254 y = f := ⟨_, rfl⟩
  rw [hf] at hV
  have HV := Lib.hid hV
  have hlt := h.lt
  clear h hb hz hT hy ho hf hV hqq
  go_enter Try.func28, Try.ntmps28
  go_wp2_with fail
  refine (HN.out _).mono ?_
  rintro e w1 ⟨rfl, h1⟩
  obtain ⟨v1, hB1, hs1⟩ := h1.rd.at_
  obtain ⟨c0, c1, c2, c3⟩ := hB1.cells
  have z1 := hB1.froz 1
  have H1 := Lib.hid (h1.set (t := { t with opc := 254 }) 1 (.int .i64 254) rfl (fun _ => rfl))
  clear h1 hB1 hs1 c0 c2 c3
  have hne : u.heap.size ≠ B := by omega
  have HLT := Lib.hid hlt
  have HZ := Lib.hid (there_to (n := 7) H1.out hlt (by decide))
  have H1 := Lib.hid H1.out.first
  clear hlt
  go_upto_region 24 with (fail)
  clear c1 z1
  refine wp_region_vals (by kernel_rfl) (fun i => i == 7) (by kernel_rfl) (GInv w0 L bs B u { t with opc := 254 } q) (GG w0 L bs B u q f) (GV w0 L bs B u q f 254 y) gv_stays gg_refl ?_ ?_ ?_
  · exact ⟨.inl (RTo.drawn H1.out), HZ.out⟩
  · intro i o b u1 ho hinv hsz hbase hdep
    have hi : i < 8 := (Array.getElem?_eq_some_iff.1 ho).1
    have b0 : b.tmps.getD 0 undef = .pointer (some ⟨B, 0, none⟩) := hbase 0 (by kernel_rfl)
    have b2 : b.tmps.getD 2 undef = .pointer (some ⟨u.heap.size, 0, none⟩) := hbase 2 (by kernel_rfl)
    clear hbase hsz
    have h8 : i = 0 ∨ i = 1 ∨ i = 2 ∨ i = 3 ∨ i = 4 ∨ i = 5 ∨ i = 6 ∨ i = 7 := by omega
    rcases h8 with rfl | rfl | rfl | rfl | rfl | rfl | rfl | rfl
    · cases ho
      exact wp_val (by simp [execOp, Act.eval, b0] <;> rfl) ⟨_, rfl, hinv, gg_refl _, rfl⟩
    · cases ho
      have d0 : b.tmps.getD 46 undef = .pointer (some ⟨B, 0, none⟩) := hdep 0 (by kernel_rfl)
      exact wp_val (by simp [execOp, Act.eval, d0, go_sem] <;> rfl) ⟨_, rfl, hinv, gg_refl _, rfl⟩
    · cases ho
      have d1 : b.tmps.getD 47 undef = .pointer (some ⟨B, 0, none⟩) := hdep 1 (by kernel_rfl)
      exact wp_val (by simp [execOp, Act.eval, d1, go_sem] <;> rfl) ⟨_, rfl, hinv, gg_refl _, rfl⟩
    · cases ho
      have d2 : b.tmps.getD 48 undef = .pointer (some ⟨B, 1, none⟩) := hdep 2 (by kernel_rfl)
      have c1 := hinv.opc (z := 254) rfl HO.out
      exact wp_val (by simp [execOp, Act.eval, d2, go_sem, c1] <;> rfl) ⟨_, rfl, hinv, gg_refl _, rfl⟩
    · cases ho
      exact wp_val (by simp [execOp, Act.eval, b0] <;> rfl) ⟨_, rfl, hinv, gg_refl _, rfl⟩
    · cases ho
      have d4 : b.tmps.getD 50 undef = .pointer (some ⟨B, 0, none⟩) := hdep 4 (by kernel_rfl)
      obtain ⟨hi1, hi2⟩ := hinv
      rcases hi1 with hi1 | hi1
      · refine wp_call (by simp [execOp, Act.eval, d4, go_sem] <;> rfl) ((HX.out u1 hi1.rd).mono ?_)
        rintro e u' ⟨rfl, h2⟩
        exact ⟨_, rfl, _, rfl, ⟨.inr (hi1.trans h2), there_but h2.but hne (there_lt hi2 (by decide)) hi2⟩, gg_call hne (fun _ => hi1.trans h2) h2.but, rfl, hi1.trans h2⟩
      · refine wp_call (by simp [execOp, Act.eval, d4, go_sem] <;> rfl) ((HXQ.out u1 hi1.rd).mono ?_)
        rintro e u' ⟨rfl, h2⟩
        exact ⟨_, rfl, _, rfl, ⟨.inr (hi1.trans h2), there_but h2.but hne (there_lt hi2 (by decide)) hi2⟩, gg_call hne (fun _ => hi1.trans h2) h2.but, rfl, hi1.trans h2⟩
    · cases ho
      have d3 : b.tmps.getD 49 undef = .int .i64 254 := hdep 3 (by kernel_rfl)
      have d5 : b.tmps.getD 51 undef = .int .i64 y := (hdep 5 (by kernel_rfl)).1
      have h5 : RTo w0 L bs B q u u1 := (hdep 5 (by kernel_rfl)).2
      refine wp_call (by simp [execOp, Act.eval, d3, d5, go_sem] <;> rfl) ((HG.out u1).mono ?_)
      rintro e u' ⟨rfl, h2⟩
      exact ⟨_, rfl, _, rfl, ⟨.inr (h5.ext h2), there_but (F := fun _ => False) (But.of_below h2) (fun h => h) (there_lt hinv.2 (by decide)) hinv.2⟩, gg_call (F := fun _ => False) (fun h => h) (fun h => h.ext h2) (But.of_below h2), HV.out.symm⟩
    · cases ho
      have d6 : b.tmps.getD 52 undef = lfV f := hdep 6 (by kernel_rfl)
      obtain ⟨hi1, hi2⟩ := hinv
      have hr := World.rangeAt_setCells_same u1 u.heap.size 0 (lfL f) hi2
      refine wp_store_mid 73 (.tmp 2) (.tmp 52) rfl u.heap.size 0 (lfL f).toArray b2 d6 hi2 info_lf (lf_one f) ⟨_, rfl, ⟨?_, ?_⟩, ⟨fun h => ?_, fun _ => hr⟩, hr⟩
      · exact hi1.elim (fun h => .inl (h.cells (Nat.le_refl _) HLT.out _ _)) (fun h => .inr (h.cells (Nat.le_refl _) HLT.out _ _))
      · exact World.there_setCells hi2 _ _ _
      · exact h.cells (Nat.le_refl _) HLT.out _ _
  · intro ff u1 hinv hVV
    have h5 := (hVV 5 (by decide)).2
    have h7 := hVV 7 (by decide)
    generalize hbb : laid _ ff _ _ = b
    have b2 : b.tmps.getD 2 undef = .pointer (some ⟨u.heap.size, 0, none⟩) := by rw [← hbb]; kernel_rfl
    have bd : b.defers = [] := by rw [← hbb]; kernel_rfl
    clear hbb
    have hl := load_lf h7
    have HL := Lib.hid hl
    have H5 := Lib.hid h5
    clear hl h5 h7 hinv hVV
    go_wp2_with fail
    exact bodyPost_ret (results_cell rfl b2 HL.out) bd ⟨by rw [HV.out], H5.out⟩
end Go.Proofs.Ytlhfpfiehgcciaa
