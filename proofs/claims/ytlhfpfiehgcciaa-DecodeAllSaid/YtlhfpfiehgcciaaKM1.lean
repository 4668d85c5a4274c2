/- The landed package decode: which row bytes begin with, groups. -/
import Derived.Test.YtlhfpfiehgcciaaKL
namespace Go.Proofs.Ytlhfpfiehgcciaa
open Go.ChangeShapes Go.WideShapes Go.ChangeAt Go.RowKit

attribute [local go_sem] isSome_setCell
set_option maxRecDepth 100000 in
set_option maxHeartbeats 1000000 in
theorem dform_128 (w0 : World) (L : Nat) (bs : Nat → Int) (hb : ∀ i, 0 ≤ bs i ∧ bs i < 256) (B : Nat) (s : RS) (u : World) (h : Rd w0 L bs B s u) (hz : (numS L bs 1 s).1 = 128) :
    Calls Try.prog 28 #[.pointer (some ⟨B, 0, none⟩)] u fun e w' => e = .returned (lfV (formS L bs s).1) ∧ RTo w0 L bs B (formS L bs s).2 u w' := by
  obtain ⟨t, hT⟩ : ∃ t, (numS L bs 1 s).2 = t := ⟨_, rfl⟩
  have hF : formS L bs s = (grpL 128 (memS L bs { t with opc := 128 }).1, (memS L bs { t with opc := 128 }).2) := by
    unfold formS
    simp only [hz, hT]
    rfl
  rw [hF]
  clear hF
  have HN := Lib.hid (fun o => dnext_any w0 L bs hb B s (u.alloc o) (h.alloc o))
  rw [hz, hT] at HN
  have HX := Lib.hid (fun (W : World) (hW : Rd w0 L bs B { t with opc := 128 } W) => dmember_any w0 L bs hb B _ W hW)
  have hy : 0 ≤ (memS L bs { t with opc := 128 }).1 ∧ (memS L bs { t with opc := 128 }).1 < 8 := memS_bd L bs _
  have ho : (memS L bs { t with opc := 128 }).2.opc = 128 := memS_opc L bs _
  have hqq := memS_again L bs { t with opc := 128 }
  generalize memS L bs { t with opc := 128 } = p at *
  obtain ⟨y, q⟩ := p
  replace hy : 0 ≤ y ∧ y < 8 := hy
  replace ho : q.opc = 128 := ho
  have HO := Lib.hid ho
  replace hqq : memS L bs q = (y, q) := hqq
  have HXQ := fun (W : World) (hW : Rd w0 L bs B q W) => dmember_any w0 L bs hb B q W hW
  rw [hqq] at HXQ
  have HXQ := Lib.hid HXQ
  show Calls _ _ _ _ fun e w' => e = .returned (lfV (grpL 128 y)) ∧ RTo w0 L bs B q u w'
  have HX : Hid (∀ W, Rd w0 L bs B { t with opc := 128 } W → Calls Try.prog 47 #[.pointer (some ⟨B, 0, none⟩)] W fun e w' => e = .returned (.int .i64 y) ∧ RTo w0 L bs B q W w') := HX
  have HG := Lib.hid (fun W => dgrp_any 128 y rfl hy.1 hy.2 W)
  generalize hV : lfV (grpL 128 y) = V at *
  obtain ⟨f, hf⟩ : ∃ f, grpL 128 y = f := ⟨_, rfl⟩
  rw [hf] at hV
  have HV := Lib.hid hV
  have hlt := h.lt
  clear h hb hz hT hy ho hf hV hqq
  go_enter Try.func28, Try.ntmps28
  go_wp2_with fail
  refine (HN.out _).mono ?_
  rintro e w1 ⟨rfl, h1⟩
  obtain ⟨v1, hB1, hs1⟩ := h1.rd.at_
  obtain ⟨c0, c1, c2, c3⟩ := hB1.cells
  have z1 := hB1.froz 1
  have H1 := Lib.hid (h1.set (t := { t with opc := 128 }) 1 (.int .i64 128) rfl (fun _ => rfl))
  clear h1 hB1 hs1 c0 c2 c3
  have hne : u.heap.size ≠ B := by omega
  have HLT := Lib.hid hlt
  have HZ := Lib.hid (there_to (n := 7) H1.out hlt (by decide))
  have H1 := Lib.hid H1.out.first
  clear hlt
  go_upto_region 24 with (fail)
  clear c1 z1
  refine wp_region_vals (by kernel_rfl) (fun i => i == 7) (by kernel_rfl) (GInv w0 L bs B u { t with opc := 128 } q) (GG w0 L bs B u q f) (GV w0 L bs B u q f 128 y) gv_stays gg_refl ?_ ?_ ?_
  · exact ⟨.inl (RTo.drawn H1.out), HZ.out⟩
  · intro i o b u1 ho hinv hsz hbase hdep
    have hi : i < 8 := (Array.getElem?_eq_some_iff.1 ho).1
    have b0 : b.tmps.getD 0 undef = .pointer (some ⟨B, 0, none⟩) := hbase 0 (by kernel_rfl)
    have b2 : b.tmps.getD 2 undef = .pointer (some ⟨u.heap.size, 0, none⟩) := hbase 2 (by kernel_rfl)
    clear hbase hsz
    have h8 : i = 0 ∨ i = 1 ∨ i = 2 ∨ i = 3 ∨ i = 4 ∨ i = 5 ∨ i = 6 ∨ i = 7 := by omega
    rcases h8 with rfl | rfl | rfl | rfl | rfl | rfl | rfl | rfl
    · cases ho
      exact wp_val (by simp [execOp, Act.eval, b0] <;> rfl) ⟨_, rfl, hinv, gg_refl _, rfl⟩
    · cases ho
      have d0 : b.tmps.getD 46 undef = .pointer (some ⟨B, 0, none⟩) := hdep 0 (by kernel_rfl)
      exact wp_val (by simp [execOp, Act.eval, d0, go_sem] <;> rfl) ⟨_, rfl, hinv, gg_refl _, rfl⟩
    · cases ho
      have d1 : b.tmps.getD 47 undef = .pointer (some ⟨B, 0, none⟩) := hdep 1 (by kernel_rfl)
      exact wp_val (by simp [execOp, Act.eval, d1, go_sem] <;> rfl) ⟨_, rfl, hinv, gg_refl _, rfl⟩
    · cases ho
      have d2 : b.tmps.getD 48 undef = .pointer (some ⟨B, 1, none⟩) := hdep 2 (by kernel_rfl)
      have c1 := hinv.opc (z := 128) rfl HO.out
      exact wp_val (by simp [execOp, Act.eval, d2, go_sem, c1] <;> rfl) ⟨_, rfl, hinv, gg_refl _, rfl⟩
    · cases ho
      exact wp_val (by simp [execOp, Act.eval, b0] <;> rfl) ⟨_, rfl, hinv, gg_refl _, rfl⟩
    · cases ho
      have d4 : b.tmps.getD 50 undef = .pointer (some ⟨B, 0, none⟩) := hdep 4 (by kernel_rfl)
      obtain ⟨hi1, hi2⟩ := hinv
      rcases hi1 with hi1 | hi1
      · refine wp_call (by simp [execOp, Act.eval, d4, go_sem] <;> rfl) ((HX.out u1 hi1.rd).mono ?_)
        rintro e u' ⟨rfl, h2⟩
        exact ⟨_, rfl, _, rfl, ⟨.inr (hi1.trans h2), there_but h2.but hne (there_lt hi2 (by decide)) hi2⟩, gg_call hne (fun _ => hi1.trans h2) h2.but, rfl, hi1.trans h2⟩
      · refine wp_call (by simp [execOp, Act.eval, d4, go_sem] <;> rfl) ((HXQ.out u1 hi1.rd).mono ?_)
        rintro e u' ⟨rfl, h2⟩
        exact ⟨_, rfl, _, rfl, ⟨.inr (hi1.trans h2), there_but h2.but hne (there_lt hi2 (by decide)) hi2⟩, gg_call hne (fun _ => hi1.trans h2) h2.but, rfl, hi1.trans h2⟩
    · cases ho
      have d3 : b.tmps.getD 49 undef = .int .i64 128 := hdep 3 (by kernel_rfl)
      have d5 : b.tmps.getD 51 undef = .int .i64 y := (hdep 5 (by kernel_rfl)).1
      have h5 : RTo w0 L bs B q u u1 := (hdep 5 (by kernel_rfl)).2
      refine wp_call (by simp [execOp, Act.eval, d3, d5, go_sem] <;> rfl) ((HG.out u1).mono ?_)
      rintro e u' ⟨rfl, h2⟩
      exact ⟨_, rfl, _, rfl, ⟨.inr (h5.ext h2), there_but (F := fun _ => False) (But.of_below h2) (fun h => h) (there_lt hinv.2 (by decide)) hinv.2⟩, gg_call (F := fun _ => False) (fun h => h) (fun h => h.ext h2) (But.of_below h2), HV.out.symm⟩
    · cases ho
      have d6 : b.tmps.getD 52 undef = lfV f := hdep 6 (by kernel_rfl)
      obtain ⟨hi1, hi2⟩ := hinv
      have hr := World.rangeAt_setCells_same u1 u.heap.size 0 (lfL f) hi2
      refine wp_store_mid 73 (.tmp 2) (.tmp 52) rfl u.heap.size 0 (lfL f).toArray b2 d6 hi2 info_lf (lf_one f) ⟨_, rfl, ⟨?_, ?_⟩, ⟨fun h => ?_, fun _ => hr⟩, hr⟩
      · exact hi1.elim (fun h => .inl (h.cells (Nat.le_refl _) HLT.out _ _)) (fun h => .inr (h.cells (Nat.le_refl _) HLT.out _ _))
      · exact World.there_setCells hi2 _ _ _
      · exact h.cells (Nat.le_refl _) HLT.out _ _
  · intro ff u1 hinv hVV
    have h5 := (hVV 5 (by decide)).2
    have h7 := hVV 7 (by decide)
    generalize hbb : laid _ ff _ _ = b
    have b2 : b.tmps.getD 2 undef = .pointer (some ⟨u.heap.size, 0, none⟩) := by rw [← hbb]; kernel_rfl
    have bd : b.defers = [] := by rw [← hbb]; kernel_rfl
    clear hbb
    have hl := load_lf h7
    have HL := Lib.hid hl
    have H5 := Lib.hid h5
    clear hl h5 h7 hinv hVV
    go_wp2_with fail
    exact bodyPost_ret (results_cell rfl b2 HL.out) bd ⟨by rw [HV.out], H5.out⟩
set_option maxRecDepth 100000 in
set_option maxHeartbeats 1000000 in
theorem dform_143 (w0 : World) (L : Nat) (bs : Nat → Int) (hb : ∀ i, 0 ≤ bs i ∧ bs i < 256) (B : Nat) (s : RS) (u : World) (h : Rd w0 L bs B s u) (hz : (numS L bs 1 s).1 = 143) :
    Calls Try.prog 28 #[.pointer (some ⟨B, 0, none⟩)] u fun e w' => e = .returned (lfV (formS L bs s).1) ∧ RTo w0 L bs B (formS L bs s).2 u w' := by
  obtain ⟨t, hT⟩ : ∃ t, (numS L bs 1 s).2 = t := ⟨_, rfl⟩
  have hF : formS L bs s = (grpL 143 (memS L bs { t with opc := 143 }).1, (memS L bs { t with opc := 143 }).2) := by
    unfold formS
    simp only [hz, hT]
    rfl
  rw [hF]
  clear hF
  have HN := Lib.hid (fun o => dnext_any w0 L bs hb B s (u.alloc o) (h.alloc o))
  rw [hz, hT] at HN
  have HX := Lib.hid (fun (W : World) (hW : Rd w0 L bs B { t with opc := 143 } W) => dmember_any w0 L bs hb B _ W hW)
  have hy : 0 ≤ (memS L bs { t with opc := 143 }).1 ∧ (memS L bs { t with opc := 143 }).1 < 8 := memS_bd L bs _
  have ho : (memS L bs { t with opc := 143 }).2.opc = 143 := memS_opc L bs _
  have hqq := memS_again L bs { t with opc := 143 }
  generalize memS L bs { t with opc := 143 } = p at *
  obtain ⟨y, q⟩ := p
  replace hy : 0 ≤ y ∧ y < 8 := hy
  replace ho : q.opc = 143 := ho
  have HO := Lib.hid ho
  replace hqq : memS L bs q = (y, q) := hqq
  have HXQ := fun (W : World) (hW : Rd w0 L bs B q W) => dmember_any w0 L bs hb B q W hW
  rw [hqq] at HXQ
  have HXQ := Lib.hid HXQ
  show Calls _ _ _ _ fun e w' => e = .returned (lfV (grpL 143 y)) ∧ RTo w0 L bs B q u w'
  have HX : Hid (∀ W, Rd w0 L bs B { t with opc := 143 } W → Calls Try.prog 47 #[.pointer (some ⟨B, 0, none⟩)] W fun e w' => e = .returned (.int .i64 y) ∧ RTo w0 L bs B q W w') := HX
  have HG := Lib.hid (fun W => dgrp_any 143 y rfl hy.1 hy.2 W)
  generalize hV : lfV (grpL 143 y) = V at *
  obtain ⟨f, hf⟩ : ∃ f, grpL 143 y = f := ⟨_, rfl⟩
  rw [hf] at hV
  have HV := Lib.hid hV
  have hlt := h.lt
  clear h hb hz hT hy ho hf hV hqq
  go_enter Try.func28, Try.ntmps28
  go_wp2_with fail
  refine (HN.out _).mono ?_
  rintro e w1 ⟨rfl, h1⟩
  obtain ⟨v1, hB1, hs1⟩ := h1.rd.at_
  obtain ⟨c0, c1, c2, c3⟩ := hB1.cells
  have z1 := hB1.froz 1
  have H1 := Lib.hid (h1.set (t := { t with opc := 143 }) 1 (.int .i64 143) rfl (fun _ => rfl))
  clear h1 hB1 hs1 c0 c2 c3
  have hne : u.heap.size ≠ B := by omega
  have HLT := Lib.hid hlt
  have HZ := Lib.hid (there_to (n := 7) H1.out hlt (by decide))
  have H1 := Lib.hid H1.out.first
  clear hlt
  go_upto_region 24 with (fail)
  clear c1 z1
  refine wp_region_vals (by kernel_rfl) (fun i => i == 7) (by kernel_rfl) (GInv w0 L bs B u { t with opc := 143 } q) (GG w0 L bs B u q f) (GV w0 L bs B u q f 143 y) gv_stays gg_refl ?_ ?_ ?_
  · exact ⟨.inl (RTo.drawn H1.out), HZ.out⟩
  · intro i o b u1 ho hinv hsz hbase hdep
    have hi : i < 8 := (Array.getElem?_eq_some_iff.1 ho).1
    have b0 : b.tmps.getD 0 undef = .pointer (some ⟨B, 0, none⟩) := hbase 0 (by kernel_rfl)
    have b2 : b.tmps.getD 2 undef = .pointer (some ⟨u.heap.size, 0, none⟩) := hbase 2 (by kernel_rfl)
    clear hbase hsz
    have h8 : i = 0 ∨ i = 1 ∨ i = 2 ∨ i = 3 ∨ i = 4 ∨ i = 5 ∨ i = 6 ∨ i = 7 := by omega
    rcases h8 with rfl | rfl | rfl | rfl | rfl | rfl | rfl | rfl
    · cases ho
      exact wp_val (by simp [execOp, Act.eval, b0] <;> rfl) ⟨_, rfl, hinv, gg_refl _, rfl⟩
    · cases ho
      have d0 : b.tmps.getD 46 undef = .pointer (some ⟨B, 0, none⟩) := hdep 0 (by kernel_rfl)
      exact wp_val (by simp [execOp, Act.eval, d0, go_sem] <;> rfl) ⟨_, rfl, hinv, gg_refl _, rfl⟩
    · cases ho
      have d1 : b.tmps.getD 47 undef = .pointer (some ⟨B, 0, none⟩) := hdep 1 (by kernel_rfl)
      exact wp_val (by simp [execOp, Act.eval, d1, go_sem] <;> rfl) ⟨_, rfl, hinv, gg_refl _, rfl⟩
    · cases ho
      have d2 : b.tmps.getD 48 undef = .pointer (some ⟨B, 1, none⟩) := hdep 2 (by kernel_rfl)
      have c1 := hinv.opc (z := 143) rfl HO.out
      exact wp_val (by simp [execOp, Act.eval, d2, go_sem, c1] <;> rfl) ⟨_, rfl, hinv, gg_refl _, rfl⟩
    · cases ho
      exact wp_val (by simp [execOp, Act.eval, b0] <;> rfl) ⟨_, rfl, hinv, gg_refl _, rfl⟩
    · cases ho
      have d4 : b.tmps.getD 50 undef = .pointer (some ⟨B, 0, none⟩) := hdep 4 (by kernel_rfl)
      obtain ⟨hi1, hi2⟩ := hinv
      rcases hi1 with hi1 | hi1
      · refine wp_call (by simp [execOp, Act.eval, d4, go_sem] <;> rfl) ((HX.out u1 hi1.rd).mono ?_)
        rintro e u' ⟨rfl, h2⟩
        exact ⟨_, rfl, _, rfl, ⟨.inr (hi1.trans h2), there_but h2.but hne (there_lt hi2 (by decide)) hi2⟩, gg_call hne (fun _ => hi1.trans h2) h2.but, rfl, hi1.trans h2⟩
      · refine wp_call (by simp [execOp, Act.eval, d4, go_sem] <;> rfl) ((HXQ.out u1 hi1.rd).mono ?_)
        rintro e u' ⟨rfl, h2⟩
        exact ⟨_, rfl, _, rfl, ⟨.inr (hi1.trans h2), there_but h2.but hne (there_lt hi2 (by decide)) hi2⟩, gg_call hne (fun _ => hi1.trans h2) h2.but, rfl, hi1.trans h2⟩
    · cases ho
      have d3 : b.tmps.getD 49 undef = .int .i64 143 := hdep 3 (by kernel_rfl)
      have d5 : b.tmps.getD 51 undef = .int .i64 y := (hdep 5 (by kernel_rfl)).1
      have h5 : RTo w0 L bs B q u u1 := (hdep 5 (by kernel_rfl)).2
      refine wp_call (by simp [execOp, Act.eval, d3, d5, go_sem] <;> rfl) ((HG.out u1).mono ?_)
      rintro e u' ⟨rfl, h2⟩
      exact ⟨_, rfl, _, rfl, ⟨.inr (h5.ext h2), there_but (F := fun _ => False) (But.of_below h2) (fun h => h) (there_lt hinv.2 (by decide)) hinv.2⟩, gg_call (F := fun _ => False) (fun h => h) (fun h => h.ext h2) (But.of_below h2), HV.out.symm⟩
    · cases ho
      have d6 : b.tmps.getD 52 undef = lfV f := hdep 6 (by kernel_rfl)
      obtain ⟨hi1, hi2⟩ := hinv
      have hr := World.rangeAt_setCells_same u1 u.heap.size 0 (lfL f) hi2
      refine wp_store_mid 73 (.tmp 2) (.tmp 52) rfl u.heap.size 0 (lfL f).toArray b2 d6 hi2 info_lf (lf_one f) ⟨_, rfl, ⟨?_, ?_⟩, ⟨fun h => ?_, fun _ => hr⟩, hr⟩
      · exact hi1.elim (fun h => .inl (h.cells (Nat.le_refl _) HLT.out _ _)) (fun h => .inr (h.cells (Nat.le_refl _) HLT.out _ _))
      · exact World.there_setCells hi2 _ _ _
      · exact h.cells (Nat.le_refl _) HLT.out _ _
  · intro ff u1 hinv hVV
    have h5 := (hVV 5 (by decide)).2
    have h7 := hVV 7 (by decide)
    generalize hbb : laid _ ff _ _ = b
    have b2 : b.tmps.getD 2 undef = .pointer (some ⟨u.heap.size, 0, none⟩) := by rw [← hbb]; kernel_rfl
    have bd : b.defers = [] := by rw [← hbb]; kernel_rfl
    clear hbb
    have hl := load_lf h7
    have HL := Lib.hid hl
    have H5 := Lib.hid h5
    clear hl h5 h7 hinv hVV
    go_wp2_with fail
    exact bodyPost_ret (results_cell rfl b2 HL.out) bd ⟨by rw [HV.out], H5.out⟩
set_option maxRecDepth 100000 in
set_option maxHeartbeats 1000000 in
theorem dform_199 (w0 : World) (L : Nat) (bs : Nat → Int) (hb : ∀ i, 0 ≤ bs i ∧ bs i < 256) (B : Nat) (s : RS) (u : World) (h : Rd w0 L bs B s u) (hz : (numS L bs 1 s).1 = 199) :
    Calls Try.prog 28 #[.pointer (some ⟨B, 0, none⟩)] u fun e w' => e = .returned (lfV (formS L bs s).1) ∧ RTo w0 L bs B (formS L bs s).2 u w' := by
  obtain ⟨t, hT⟩ : ∃ t, (numS L bs 1 s).2 = t := ⟨_, rfl⟩
  have hF : formS L bs s = (grpL 199 (memS L bs { t with opc := 199 }).1, (memS L bs { t with opc := 199 }).2) := by
    unfold formS
    simp only [hz, hT]
    rfl
  rw [hF]
  clear hF
  have HN := Lib.hid (fun o => dnext_any w0 L bs hb B s (u.alloc o) (h.alloc o))
  rw [hz, hT] at HN
  have HX := Lib.hid (fun (W : World) (hW : Rd w0 L bs B { t with opc := 199 } W) => dmember_any w0 L bs hb B _ W hW)
  have hy : 0 ≤ (memS L bs { t with opc := 199 }).1 ∧ (memS L bs { t with opc := 199 }).1 < 8 := memS_bd L bs _
  have ho : (memS L bs { t with opc := 199 }).2.opc = 199 := memS_opc L bs _
  have hqq := memS_again L bs { t with opc := 199 }
  generalize memS L bs { t with opc := 199 } = p at *
  obtain ⟨y, q⟩ := p
  replace hy : 0 ≤ y ∧ y < 8 := hy
  replace ho : q.opc = 199 := ho
  have HO := Lib.hid ho
  replace hqq : memS L bs q = (y, q) := hqq
  have HXQ := fun (W : World) (hW : Rd w0 L bs B q W) => dmember_any w0 L bs hb B q W hW
  rw [hqq] at HXQ
  have HXQ := Lib.hid HXQ
  show Calls _ _ _ _ fun e w' => e = .returned (lfV (grpL 199 y)) ∧ RTo w0 L bs B q u w'
  have HX : Hid (∀ W, Rd w0 L bs B { t with opc := 199 } W → Calls Try.prog 47 #[.pointer (some ⟨B, 0, none⟩)] W fun e w' => e = .returned (.int .i64 y) ∧ RTo w0 L bs B q W w') := HX
  have HG := Lib.hid (fun W => dgrp_any 199 y rfl hy.1 hy.2 W)
  generalize hV : lfV (grpL 199 y) = V at *
  obtain ⟨f, hf⟩ : ∃ f, grpL 199 y = f := ⟨_, rfl⟩
  rw [hf] at hV
  have HV := Lib.hid hV
  have hlt := h.lt
  clear h hb hz hT hy ho hf hV hqq
  go_enter Try.func28, Try.ntmps28
  go_wp2_with fail
  refine (HN.out _).mono ?_
  rintro e w1 ⟨rfl, h1⟩
  obtain ⟨v1, hB1, hs1⟩ := h1.rd.at_
  obtain ⟨c0, c1, c2, c3⟩ := hB1.cells
  have z1 := hB1.froz 1
  have H1 := Lib.hid (h1.set (t := { t with opc := 199 }) 1 (.int .i64 199) rfl (fun _ => rfl))
  clear h1 hB1 hs1 c0 c2 c3
  have hne : u.heap.size ≠ B := by omega
  have HLT := Lib.hid hlt
  have HZ := Lib.hid (there_to (n := 7) H1.out hlt (by decide))
  have H1 := Lib.hid H1.out.first
  clear hlt
  go_upto_region 24 with (fail)
  clear c1 z1
  refine wp_region_vals (by kernel_rfl) (fun i => i == 7) (by kernel_rfl) (GInv w0 L bs B u { t with opc := 199 } q) (GG w0 L bs B u q f) (GV w0 L bs B u q f 199 y) gv_stays gg_refl ?_ ?_ ?_
  · exact ⟨.inl (RTo.drawn H1.out), HZ.out⟩
  · intro i o b u1 ho hinv hsz hbase hdep
    have hi : i < 8 := (Array.getElem?_eq_some_iff.1 ho).1
    have b0 : b.tmps.getD 0 undef = .pointer (some ⟨B, 0, none⟩) := hbase 0 (by kernel_rfl)
    have b2 : b.tmps.getD 2 undef = .pointer (some ⟨u.heap.size, 0, none⟩) := hbase 2 (by kernel_rfl)
    clear hbase hsz
    have h8 : i = 0 ∨ i = 1 ∨ i = 2 ∨ i = 3 ∨ i = 4 ∨ i = 5 ∨ i = 6 ∨ i = 7 := by omega
    rcases h8 with rfl | rfl | rfl | rfl | rfl | rfl | rfl | rfl
    · cases ho
      exact wp_val (by simp [execOp, Act.eval, b0] <;> rfl) ⟨_, rfl, hinv, gg_refl _, rfl⟩
    · cases ho
      have d0 : b.tmps.getD 46 undef = .pointer (some ⟨B, 0, none⟩) := hdep 0 (by kernel_rfl)
      exact wp_val (by simp [execOp, Act.eval, d0, go_sem] <;> rfl) ⟨_, rfl, hinv, gg_refl _, rfl⟩
    · cases ho
      have d1 : b.tmps.getD 47 undef = .pointer (some ⟨B, 0, none⟩) := hdep 1 (by kernel_rfl)
      exact wp_val (by simp [execOp, Act.eval, d1, go_sem] <;> rfl) ⟨_, rfl, hinv, gg_refl _, rfl⟩
    · cases ho
      have d2 : b.tmps.getD 48 undef = .pointer (some ⟨B, 1, none⟩) := hdep 2 (by kernel_rfl)
      have c1 := hinv.opc (z := 199) rfl HO.out
      exact wp_val (by simp [execOp, Act.eval, d2, go_sem, c1] <;> rfl) ⟨_, rfl, hinv, gg_refl _, rfl⟩
    · cases ho
      exact wp_val (by simp [execOp, Act.eval, b0] <;> rfl) ⟨_, rfl, hinv, gg_refl _, rfl⟩
    · cases ho
      have d4 : b.tmps.getD 50 undef = .pointer (some ⟨B, 0, none⟩) := hdep 4 (by kernel_rfl)
      obtain ⟨hi1, hi2⟩ := hinv
      rcases hi1 with hi1 | hi1
      · refine wp_call (by simp [execOp, Act.eval, d4, go_sem] <;> rfl) ((HX.out u1 hi1.rd).mono ?_)
        rintro e u' ⟨rfl, h2⟩
        exact ⟨_, rfl, _, rfl, ⟨.inr (hi1.trans h2), there_but h2.but hne (there_lt hi2 (by decide)) hi2⟩, gg_call hne (fun _ => hi1.trans h2) h2.but, rfl, hi1.trans h2⟩
      · refine wp_call (by simp [execOp, Act.eval, d4, go_sem] <;> rfl) ((HXQ.out u1 hi1.rd).mono ?_)
        rintro e u' ⟨rfl, h2⟩
        exact ⟨_, rfl, _, rfl, ⟨.inr (hi1.trans h2), there_but h2.but hne (there_lt hi2 (by decide)) hi2⟩, gg_call hne (fun _ => hi1.trans h2) h2.but, rfl, hi1.trans h2⟩
    · cases ho
      have d3 : b.tmps.getD 49 undef = .int .i64 199 := hdep 3 (by kernel_rfl)
      have d5 : b.tmps.getD 51 undef = .int .i64 y := (hdep 5 (by kernel_rfl)).1
      have h5 : RTo w0 L bs B q u u1 := (hdep 5 (by kernel_rfl)).2
      refine wp_call (by simp [execOp, Act.eval, d3, d5, go_sem] <;> rfl) ((HG.out u1).mono ?_)
      rintro e u' ⟨rfl, h2⟩
      exact ⟨_, rfl, _, rfl, ⟨.inr (h5.ext h2), there_but (F := fun _ => False) (But.of_below h2) (fun h => h) (there_lt hinv.2 (by decide)) hinv.2⟩, gg_call (F := fun _ => False) (fun h => h) (fun h => h.ext h2) (But.of_below h2), HV.out.symm⟩
    · cases ho
      have d6 : b.tmps.getD 52 undef = lfV f := hdep 6 (by kernel_rfl)
      obtain ⟨hi1, hi2⟩ := hinv
      have hr := World.rangeAt_setCells_same u1 u.heap.size 0 (lfL f) hi2
      refine wp_store_mid 73 (.tmp 2) (.tmp 52) rfl u.heap.size 0 (lfL f).toArray b2 d6 hi2 info_lf (lf_one f) ⟨_, rfl, ⟨?_, ?_⟩, ⟨fun h => ?_, fun _ => hr⟩, hr⟩
      · exact hi1.elim (fun h => .inl (h.cells (Nat.le_refl _) HLT.out _ _)) (fun h => .inr (h.cells (Nat.le_refl _) HLT.out _ _))
      · exact World.there_setCells hi2 _ _ _
      · exact h.cells (Nat.le_refl _) HLT.out _ _
  · intro ff u1 hinv hVV
    have h5 := (hVV 5 (by decide)).2
    have h7 := hVV 7 (by decide)
    generalize hbb : laid _ ff _ _ = b
    have b2 : b.tmps.getD 2 undef = .pointer (some ⟨u.heap.size, 0, none⟩) := by rw [← hbb]; kernel_rfl
    have bd : b.defers = [] := by rw [← hbb]; kernel_rfl
    clear hbb
    have hl := load_lf h7
    have HL := Lib.hid hl
    have H5 := Lib.hid h5
    clear hl h5 h7 hinv hVV
    go_wp2_with fail
    exact bodyPost_ret (results_cell rfl b2 HL.out) bd ⟨by rw [HV.out], H5.out⟩
set_option maxRecDepth 100000 in
set_option maxHeartbeats 1000000 in
theorem dform_246 (w0 : World) (L : Nat) (bs : Nat → Int) (hb : ∀ i, 0 ≤ bs i ∧ bs i < 256) (B : Nat) (s : RS) (u : World) (h : Rd w0 L bs B s u) (hz : (numS L bs 1 s).1 = 246) :
    Calls Try.prog 28 #[.pointer (some ⟨B, 0, none⟩)] u fun e w' => e = .returned (lfV (formS L bs s).1) ∧ RTo w0 L bs B (formS L bs s).2 u w' := by
  obtain ⟨t, hT⟩ : ∃ t, (numS L bs 1 s).2 = t := ⟨_, rfl⟩
  have hF : formS L bs s = (grpL 246 (memS L bs { t with opc := 246 }).1, (memS L bs { t with opc := 246 }).2) := by
    unfold formS
    simp only [hz, hT]
    rfl
  rw [hF]
  clear hF
  have HN := Lib.hid (fun o => dnext_any w0 L bs hb B s (u.alloc o) (h.alloc o))
  rw [hz, hT] at HN
  have HX := Lib.hid (fun (W : World) (hW : Rd w0 L bs B { t with opc := 246 } W) => dmember_any w0 L bs hb B _ W hW)
  have hy : 0 ≤ (memS L bs { t with opc := 246 }).1 ∧ (memS L bs { t with opc := 246 }).1 < 8 := memS_bd L bs _
  have ho : (memS L bs { t with opc := 246 }).2.opc = 246 := memS_opc L bs _
  have hqq := memS_again L bs { t with opc := 246 }
  generalize memS L bs { t with opc := 246 } = p at *
  obtain ⟨y, q⟩ := p
  replace hy : 0 ≤ y ∧ y < 8 := hy
  replace ho : q.opc = 246 := ho
  have HO := Lib.hid ho
  replace hqq : memS L bs q = (y, q) := hqq
  have HXQ := fun (W : World) (hW : Rd w0 L bs B q W) => dmember_any w0 L bs hb B q W hW
  rw [hqq] at HXQ
  have HXQ := Lib.hid HXQ
  show Calls _ _ _ _ fun e w' => e = .returned (lfV (grpL 246 y)) ∧ RTo w0 L bs B q u w'
  have HX : Hid (∀ W, Rd w0 L bs B { t with opc := 246 } W → Calls Try.prog 47 #[.pointer (some ⟨B, 0, none⟩)] W fun e w' => e = .returned (.int .i64 y) ∧ RTo w0 L bs B q W w') := HX
  have HG := Lib.hid (fun W => dgrp_any 246 y rfl hy.1 hy.2 W)
  generalize hV : lfV (grpL 246 y) = V at *
  obtain ⟨f, hf⟩ : ∃ f, grpL 246 y = f := ⟨_, rfl⟩
  rw [hf] at hV
  have HV := Lib.hid hV
  have hlt := h.lt
  clear h hb hz hT hy ho hf hV hqq
  go_enter Try.func28, Try.ntmps28
  go_wp2_with fail
  refine (HN.out _).mono ?_
  rintro e w1 ⟨rfl, h1⟩
  obtain ⟨v1, hB1, hs1⟩ := h1.rd.at_
  obtain ⟨c0, c1, c2, c3⟩ := hB1.cells
  have z1 := hB1.froz 1
  have H1 := Lib.hid (h1.set (t := { t with opc := 246 }) 1 (.int .i64 246) rfl (fun _ => rfl))
  clear h1 hB1 hs1 c0 c2 c3
  have hne : u.heap.size ≠ B := by omega
  have HLT := Lib.hid hlt
  have HZ := Lib.hid (there_to (n := 7) H1.out hlt (by decide))
  have H1 := Lib.hid H1.out.first
  clear hlt
  go_upto_region 24 with (fail)
  clear c1 z1
  refine wp_region_vals (by kernel_rfl) (fun i => i == 7) (by kernel_rfl) (GInv w0 L bs B u { t with opc := 246 } q) (GG w0 L bs B u q f) (GV w0 L bs B u q f 246 y) gv_stays gg_refl ?_ ?_ ?_
  · exact ⟨.inl (RTo.drawn H1.out), HZ.out⟩
  · intro i o b u1 ho hinv hsz hbase hdep
    have hi : i < 8 := (Array.getElem?_eq_some_iff.1 ho).1
    have b0 : b.tmps.getD 0 undef = .pointer (some ⟨B, 0, none⟩) := hbase 0 (by kernel_rfl)
    have b2 : b.tmps.getD 2 undef = .pointer (some ⟨u.heap.size, 0, none⟩) := hbase 2 (by kernel_rfl)
    clear hbase hsz
    have h8 : i = 0 ∨ i = 1 ∨ i = 2 ∨ i = 3 ∨ i = 4 ∨ i = 5 ∨ i = 6 ∨ i = 7 := by omega
    rcases h8 with rfl | rfl | rfl | rfl | rfl | rfl | rfl | rfl
    · cases ho
      exact wp_val (by simp [execOp, Act.eval, b0] <;> rfl) ⟨_, rfl, hinv, gg_refl _, rfl⟩
    · cases ho
      have d0 : b.tmps.getD 46 undef = .pointer (some ⟨B, 0, none⟩) := hdep 0 (by kernel_rfl)
      exact wp_val (by simp [execOp, Act.eval, d0, go_sem] <;> rfl) ⟨_, rfl, hinv, gg_refl _, rfl⟩
    · cases ho
      have d1 : b.tmps.getD 47 undef = .pointer (some ⟨B, 0, none⟩) := hdep 1 (by kernel_rfl)
      exact wp_val (by simp [execOp, Act.eval, d1, go_sem] <;> rfl) ⟨_, rfl, hinv, gg_refl _, rfl⟩
    · cases ho
      have d2 : b.tmps.getD 48 undef = .pointer (some ⟨B, 1, none⟩) := hdep 2 (by kernel_rfl)
      have c1 := hinv.opc (z := 246) rfl HO.out
      exact wp_val (by simp [execOp, Act.eval, d2, go_sem, c1] <;> rfl) ⟨_, rfl, hinv, gg_refl _, rfl⟩
    · cases ho
      exact wp_val (by simp [execOp, Act.eval, b0] <;> rfl) ⟨_, rfl, hinv, gg_refl _, rfl⟩
    · cases ho
      have d4 : b.tmps.getD 50 undef = .pointer (some ⟨B, 0, none⟩) := hdep 4 (by kernel_rfl)
      obtain ⟨hi1, hi2⟩ := hinv
      rcases hi1 with hi1 | hi1
      · refine wp_call (by simp [execOp, Act.eval, d4, go_sem] <;> rfl) ((HX.out u1 hi1.rd).mono ?_)
        rintro e u' ⟨rfl, h2⟩
        exact ⟨_, rfl, _, rfl, ⟨.inr (hi1.trans h2), there_but h2.but hne (there_lt hi2 (by decide)) hi2⟩, gg_call hne (fun _ => hi1.trans h2) h2.but, rfl, hi1.trans h2⟩
      · refine wp_call (by simp [execOp, Act.eval, d4, go_sem] <;> rfl) ((HXQ.out u1 hi1.rd).mono ?_)
        rintro e u' ⟨rfl, h2⟩
        exact ⟨_, rfl, _, rfl, ⟨.inr (hi1.trans h2), there_but h2.but hne (there_lt hi2 (by decide)) hi2⟩, gg_call hne (fun _ => hi1.trans h2) h2.but, rfl, hi1.trans h2⟩
    · cases ho
      have d3 : b.tmps.getD 49 undef = .int .i64 246 := hdep 3 (by kernel_rfl)
      have d5 : b.tmps.getD 51 undef = .int .i64 y := (hdep 5 (by kernel_rfl)).1
      have h5 : RTo w0 L bs B q u u1 := (hdep 5 (by kernel_rfl)).2
      refine wp_call (by simp [execOp, Act.eval, d3, d5, go_sem] <;> rfl) ((HG.out u1).mono ?_)
      rintro e u' ⟨rfl, h2⟩
      exact ⟨_, rfl, _, rfl, ⟨.inr (h5.ext h2), there_but (F := fun _ => False) (But.of_below h2) (fun h => h) (there_lt hinv.2 (by decide)) hinv.2⟩, gg_call (F := fun _ => False) (fun h => h) (fun h => h.ext h2) (But.of_below h2), HV.out.symm⟩
    · cases ho
      have d6 : b.tmps.getD 52 undef = lfV f := hdep 6 (by kernel_rfl)
      obtain ⟨hi1, hi2⟩ := hinv
      have hr := World.rangeAt_setCells_same u1 u.heap.size 0 (lfL f) hi2
      refine wp_store_mid 73 (.tmp 2) (.tmp 52) rfl u.heap.size 0 (lfL f).toArray b2 d6 hi2 info_lf (lf_one f) ⟨_, rfl, ⟨?_, ?_⟩, ⟨fun h => ?_, fun _ => hr⟩, hr⟩
      · exact hi1.elim (fun h => .inl (h.cells (Nat.le_refl _) HLT.out _ _)) (fun h => .inr (h.cells (Nat.le_refl _) HLT.out _ _))
      · exact World.there_setCells hi2 _ _ _
      · exact h.cells (Nat.le_refl _) HLT.out _ _
  · intro ff u1 hinv hVV
    have h5 := (hVV 5 (by decide)).2
    have h7 := hVV 7 (by decide)
    generalize hbb : laid _ ff _ _ = b
    have b2 : b.tmps.getD 2 undef = .pointer (some ⟨u.heap.size, 0, none⟩) := by rw [← hbb]; kernel_rfl
    have bd : b.defers = [] := by rw [← hbb]; kernel_rfl
    clear hbb
    have hl := load_lf h7
    have HL := Lib.hid hl
    have H5 := Lib.hid h5
    clear hl h5 h7 hinv hVV
    go_wp2_with fail
    exact bodyPost_ret (results_cell rfl b2 HL.out) bd ⟨by rw [HV.out], H5.out⟩
set_option maxRecDepth 100000 in
set_option maxHeartbeats 1000000 in
theorem dform_255 (w0 : World) (L : Nat) (bs : Nat → Int) (hb : ∀ i, 0 ≤ bs i ∧ bs i < 256) (B : Nat) (s : RS) (u : World) (h : Rd w0 L bs B s u) (hz : (numS L bs 1 s).1 = 255) :
    Calls Try.prog 28 #[.pointer (some ⟨B, 0, none⟩)] u fun e w' => e = .returned (lfV (formS L bs s).1) ∧ RTo w0 L bs B (formS L bs s).2 u w' := by
  obtain ⟨t, hT⟩ : ∃ t, (numS L bs 1 s).2 = t := ⟨_, rfl⟩
  have hF : formS L bs s = (grpL 255 (memS L bs { t with opc := 255 }).1, (memS L bs { t with opc := 255 }).2) := by
    unfold formS
    simp only [hz, hT]
    rfl
  rw [hF]
  clear hF
  have HN := Lib.hid (fun o => dnext_any w0 L bs hb B s (u.alloc o) (h.alloc o))
  rw [hz, hT] at HN
  have HX := Lib.hid (fun (W : World) (hW : Rd w0 L bs B { t with opc := 255 } W) => dmember_any w0 L bs hb B _ W hW)
  have hy : 0 ≤ (memS L bs { t with opc := 255 }).1 ∧ (memS L bs { t with opc := 255 }).1 < 8 := memS_bd L bs _
  have ho : (memS L bs { t with opc := 255 }).2.opc = 255 := memS_opc L bs _
  have hqq := memS_again L bs { t with opc := 255 }
  generalize memS L bs { t with opc := 255 } = p at *
  obtain ⟨y, q⟩ := p
  replace hy : 0 ≤ y ∧ y < 8 := hy
  replace ho : q.opc = 255 := ho
  have HO := Lib.hid ho
  replace hqq : memS L bs q = (y, q) := hqq
  have HXQ := fun (W : World) (hW : Rd w0 L bs B q W) => dmember_any w0 L bs hb B q W hW
  rw [hqq] at HXQ
  have HXQ := Lib.hid HXQ
  show Calls _ _ _ _ fun e w' => e = .returned (lfV (grpL 255 y)) ∧ RTo w0 L bs B q u w'
  have HX : Hid (∀ W, Rd w0 L bs B { t with opc := 255 } W → Calls Try.prog 47 #[.pointer (some ⟨B, 0, none⟩)] W fun e w' => e = .returned (.int .i64 y) ∧ RTo w0 L bs B q W w') := HX
  have HG := Lib.hid (fun W => dgrp_any 255 y rfl hy.1 hy.2 W)
  generalize hV : lfV (grpL 255 y) = V at *
  obtain ⟨f, hf⟩ : ∃ f, grpL 255 y = f := ⟨_, rfl⟩
  rw [hf] at hV
  have HV := Lib.hid hV
  have hlt := h.lt
  clear h hb hz hT hy ho hf hV hqq
  go_enter Try.func28, Try.ntmps28
  go_wp2_with fail
  refine (HN.out _).mono ?_
  rintro e w1 ⟨rfl, h1⟩
  obtain ⟨v1, hB1, hs1⟩ := h1.rd.at_
  obtain ⟨c0, c1, c2, c3⟩ := hB1.cells
  have z1 := hB1.froz 1
  have H1 := Lib.hid (h1.set (t := { t with opc := 255 }) 1 (.int .i64 255) rfl (fun _ => rfl))
  clear h1 hB1 hs1 c0 c2 c3
  have hne : u.heap.size ≠ B := by omega
  have HLT := Lib.hid hlt
  have HZ := Lib.hid (there_to (n := 7) H1.out hlt (by decide))
  have H1 := Lib.hid H1.out.first
  clear hlt
  go_upto_region 24 with (fail)
  clear c1 z1
  refine wp_region_vals (by kernel_rfl) (fun i => i == 7) (by kernel_rfl) (GInv w0 L bs B u { t with opc := 255 } q) (GG w0 L bs B u q f) (GV w0 L bs B u q f 255 y) gv_stays gg_refl ?_ ?_ ?_
  · exact ⟨.inl (RTo.drawn H1.out), HZ.out⟩
  · intro i o b u1 ho hinv hsz hbase hdep
    have hi : i < 8 := (Array.getElem?_eq_some_iff.1 ho).1
    have b0 : b.tmps.getD 0 undef = .pointer (some ⟨B, 0, none⟩) := hbase 0 (by kernel_rfl)
    have b2 : b.tmps.getD 2 undef = .pointer (some ⟨u.heap.size, 0, none⟩) := hbase 2 (by kernel_rfl)
    clear hbase hsz
    have h8 : i = 0 ∨ i = 1 ∨ i = 2 ∨ i = 3 ∨ i = 4 ∨ i = 5 ∨ i = 6 ∨ i = 7 := by omega
    rcases h8 with rfl | rfl | rfl | rfl | rfl | rfl | rfl | rfl
    · cases ho
      exact wp_val (by simp [execOp, Act.eval, b0] <;> rfl) ⟨_, rfl, hinv, gg_refl _, rfl⟩
    · cases ho
      have d0 : b.tmps.getD 46 undef = .pointer (some ⟨B, 0, none⟩) := hdep 0 (by kernel_rfl)
      exact wp_val (by simp [execOp, Act.eval, d0, go_sem] <;> rfl) ⟨_, rfl, hinv, gg_refl _, rfl⟩
    · cases ho
      have d1 : b.tmps.getD 47 undef = .pointer (some ⟨B, 0, none⟩) := hdep 1 (by kernel_rfl)
      exact wp_val (by simp [execOp, Act.eval, d1, go_sem] <;> rfl) ⟨_, rfl, hinv, gg_refl _, rfl⟩
    · cases ho
      have d2 : b.tmps.getD 48 undef = .pointer (some ⟨B, 1, none⟩) := hdep 2 (by kernel_rfl)
      have c1 := hinv.opc (z := 255) rfl HO.out
      exact wp_val (by simp [execOp, Act.eval, d2, go_sem, c1] <;> rfl) ⟨_, rfl, hinv, gg_refl _, rfl⟩
    · cases ho
      exact wp_val (by simp [execOp, Act.eval, b0] <;> rfl) ⟨_, rfl, hinv, gg_refl _, rfl⟩
    · cases ho
      have d4 : b.tmps.getD 50 undef = .pointer (some ⟨B, 0, none⟩) := hdep 4 (by kernel_rfl)
      obtain ⟨hi1, hi2⟩ := hinv
      rcases hi1 with hi1 | hi1
      · refine wp_call (by simp [execOp, Act.eval, d4, go_sem] <;> rfl) ((HX.out u1 hi1.rd).mono ?_)
        rintro e u' ⟨rfl, h2⟩
        exact ⟨_, rfl, _, rfl, ⟨.inr (hi1.trans h2), there_but h2.but hne (there_lt hi2 (by decide)) hi2⟩, gg_call hne (fun _ => hi1.trans h2) h2.but, rfl, hi1.trans h2⟩
      · refine wp_call (by simp [execOp, Act.eval, d4, go_sem] <;> rfl) ((HXQ.out u1 hi1.rd).mono ?_)
        rintro e u' ⟨rfl, h2⟩
        exact ⟨_, rfl, _, rfl, ⟨.inr (hi1.trans h2), there_but h2.but hne (there_lt hi2 (by decide)) hi2⟩, gg_call hne (fun _ => hi1.trans h2) h2.but, rfl, hi1.trans h2⟩
    · cases ho
      have d3 : b.tmps.getD 49 undef = .int .i64 255 := hdep 3 (by kernel_rfl)
      have d5 : b.tmps.getD 51 undef = .int .i64 y := (hdep 5 (by kernel_rfl)).1
      have h5 : RTo w0 L bs B q u u1 := (hdep 5 (by kernel_rfl)).2
      refine wp_call (by simp [execOp, Act.eval, d3, d5, go_sem] <;> rfl) ((HG.out u1).mono ?_)
      rintro e u' ⟨rfl, h2⟩
      exact ⟨_, rfl, _, rfl, ⟨.inr (h5.ext h2), there_but (F := fun _ => False) (But.of_below h2) (fun h => h) (there_lt hinv.2 (by decide)) hinv.2⟩, gg_call (F := fun _ => False) (fun h => h) (fun h => h.ext h2) (But.of_below h2), HV.out.symm⟩
    · cases ho
      have d6 : b.tmps.getD 52 undef = lfV f := hdep 6 (by kernel_rfl)
      obtain ⟨hi1, hi2⟩ := hinv
      have hr := World.rangeAt_setCells_same u1 u.heap.size 0 (lfL f) hi2
      refine wp_store_mid 73 (.tmp 2) (.tmp 52) rfl u.heap.size 0 (lfL f).toArray b2 d6 hi2 info_lf (lf_one f) ⟨_, rfl, ⟨?_, ?_⟩, ⟨fun h => ?_, fun _ => hr⟩, hr⟩
      · exact hi1.elim (fun h => .inl (h.cells (Nat.le_refl _) HLT.out _ _)) (fun h => .inr (h.cells (Nat.le_refl _) HLT.out _ _))
      · exact World.there_setCells hi2 _ _ _
      · exact h.cells (Nat.le_refl _) HLT.out _ _
  · intro ff u1 hinv hVV
    have h5 := (hVV 5 (by decide)).2
    have h7 := hVV 7 (by decide)
    generalize hbb : laid _ ff _ _ = b
    have b2 : b.tmps.getD 2 undef = .pointer (some ⟨u.heap.size, 0, none⟩) := by rw [← hbb]; kernel_rfl
    have bd : b.defers = [] := by rw [← hbb]; kernel_rfl
    clear hbb
    have hl := load_lf h7
    have HL := Lib.hid hl
    have H5 := Lib.hid h5
    clear hl h5 h7 hinv hVV
    go_wp2_with fail
    exact bodyPost_ret (results_cell rfl b2 HL.out) bd ⟨by rw [HV.out], H5.out⟩
end Go.Proofs.Ytlhfpfiehgcciaa
