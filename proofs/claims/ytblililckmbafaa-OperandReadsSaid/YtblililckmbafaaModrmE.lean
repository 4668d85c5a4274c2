/- The landed package modrm: which operand bytes are, of two bytes and more. -/
import Derived.Test.YtblililckmbafaaModrmD
namespace Go.Proofs.Ytblililckmbafaa
open Go.ChangeShapes Go.WideShapes Go.ChangeAt Go.RowKit

set_option maxRecDepth 100000 in
set_option maxHeartbeats 2000000 in
theorem mrread_d (L : Nat) (bs : Nat → Int) (hb : ∀ i, 0 ≤ bs i ∧ bs i < 256) (ad : Addr) (cap : Nat) (w : World) (hl : L ≤ cap) (hc : ∀ i, i < L → w.cell? (ad.add i) = some (.int .u8 (bs i))) (hL : L ≤ maxLen) (h3 : bs 0 / 64 ≠ 3) (h4 : bs 0 % 8 = 4) (hn : 2 + more9 (bs 0 / 64) (bs 1 % 8) ≤ L) :
    Calls Try.prog 6 #[.slice (some ad) L cap] w fun e w' => e = .returned (.tuple #[.agg #[.int .i64 3, .int .i64 0, .int .i64 (base9 (bs 0 / 64) (bs 1 % 8)), .int .i64 (sibI (bs 1)), .int .i64 (sibS (bs 1)), .int .u32 (disp9 (more9 (bs 0 / 64) (bs 1 % 8)) bs 2)], .int .i64 (bs 0 / 8 % 8), .int .i64 (2 + more9 (bs 0 / 64) (bs 1 % 8) : Nat), .int .i64 0]) ∧ Below w.heap.size w w' := by
  have hc0 : w.cell? ad = some (.int .u8 (bs 0)) := by simpa [Addr.add] using hc 0 (by omega)
  have hs : Slc .u8 w (.slice (some ad) L cap) L bs := .inr ⟨ad, cap, rfl, hl, hc⟩
  have HL := fun (u : World) (hu : Below w.heap.size w u) => mlength_any _ L bs hb u (hs.below hu) hL
  rw [show lenF L bs = 2 + more9 (bs 0 / 64) (bs 1 % 8) by unfold lenF; rw [if_neg (by omega), if_neg h3, if_neg (by omega), if_neg (by omega)]] at HL
  clear hs
  have HF := mfields_any (bs 0) (hb 0).1 (hb 0).2
  rw [h4] at HF
  have HM := mmemory_any 4
  have HX := mscaled_any (bs 1) (hb 1).1 (hb 1).2
  have hm := more9_le (bs 0 / 64) (bs 1 % 8)
  have e3 : (bs 0 / 64 == 3) = false := by simpa using h3
  unfold maxLen at hL
  generalize more9 (bs 0 / 64) (bs 1 % 8) = M at *
  have HS := (fun (u : World) (hu : Below w.heap.size w u) => mnumber_any _ M _ (fun i => hb (2 + i)) u ((slc_cut hc 2 M (cap - 2) (by omega) (by omega) (by omega) (cutA ad cap 2) (fun hm => by unfold cutA; rw [if_neg (by omega)]; exact add_pos _ _ (by omega))).below hu) (by omega))
  rw [disp9_sh] at HS
  have HS := Lib.hid HS
  have hA : ∀ o, (w.alloc o).cell? ad = some (.int .u8 (bs 0)) := fun o => cell_alloc hc0
  have hc1 : w.cell? ⟨ad.block, ad.off + 1, none⟩ = some (.int .u8 (bs 1)) := by rw [← hc 1 (by omega)]; rfl
  have hA1 : ∀ o1 o2 o3, (((w.alloc o1).alloc o2).alloc o3).cell? ⟨ad.block, ad.off + 1, none⟩ = some (.int .u8 (bs 1)) := fun o1 o2 o3 => cell_alloc (cell_alloc (cell_alloc hc1))
  clear hc hb h3 h4
  generalize hmd : bs 0 / 64 = md at *
  generalize hrm : bs 1 % 8 = rm at *
  generalize hrg : bs 0 / 8 % 8 = rg at *
  generalize sibI (bs 1) = sI at *
  generalize sibS (bs 1) = sS at *
  clear hmd hrm hrg
  have HL := Lib.hid HL
  have HF := Lib.hid HF
  have HM := Lib.hid HM
  have HX := Lib.hid HX
  have i0 : (0 : Int) < (L : Int) := by omega
  have i0' : 0 < L := by omega
  have i1 : (1 : Int) < (L : Int) := by omega
  have i1' : 1 < L := by omega
  have eL : decide ((L : Int) < ((2 + M : Nat) : Int)) = false := by simp; omega
  have eL' : decide (L < 2 + M) = false := by simp; omega
  have q1 : (1 : Int) ≤ ((2 + M : Nat) : Int) := by omega
  have q2 : ((2 + M : Nat) : Int) ≤ (cap : Int) := by omega
  have hsl := fun u => slice_from ad L cap 1 (1 + M) (by omega) 1 (2 + (M : Int)) rfl (by omega) u
  have hsl2 := fun u => slice_from ad L cap 2 M (by omega) 2 (2 + (M : Int)) rfl rfl u
  have HR := Lib.hid (show (2 + (M : Int)) = ((2 + M : Nat) : Int) by omega)
  by_cases h5 : md = 0 ∧ rm = 5
  · obtain ⟨rfl, rfl⟩ := h5
    rw [show base9 0 5 = -1 by rfl]
    clear e3
    go_enter Try.func6, Try.ntmps6
    go_wp2_with (first | (go_at_call 10; (with_reducible refine (HL.out _ ((Below.refl _ _).alloc (Nat.le_refl _) _)).mono ?_); rintro e w' ⟨rfl, rfl⟩) | (go_at_call 11; refine (HF.out _).mono ?_; rintro e w' ⟨rfl, rfl⟩))
    go_region_with (go_at_call 12; (with_reducible refine (HM.out _).mono ?_); rintro e w' ⟨rfl, rfl⟩)
    all_goals
      go_wp2_with fail
      go_region_with (go_at_call 14; (with_reducible refine (HX.out _).mono ?_); rintro e w' ⟨rfl, nq, rfl⟩; simp only [drew_alloc, drewN_alloc]; have hsz : (w.drew.drew.drewN nq).heap.size = w.heap.size := drewN_size w.drew.drew nq; have HU := Lib.hid (below_drN (Below.refl w.heap.size w).drew.drew nq); rw [← hsz]; clear hsz; generalize w.drew.drew.drewN nq = u2 at HU ⊢)
      go_wp2_with (go_at_call 15; (with_reducible refine (HS.out _ (by repeat (first | exact HU.out | exact Below.refl _ _ | (with_reducible refine Below.drew ?_) | (with_reducible refine below_last ?_ _)))).mono ?_); rintro e w' ⟨rfl, nq2, rfl⟩; simp only [drewN_alloc]; have hsz : (u2.drewN nq2).heap.size = u2.heap.size := drewN_size u2 nq2; have HW := Lib.hid (below_drN HU.out nq2); rw [← hsz]; clear hsz; generalize u2.drewN nq2 = u3 at HW ⊢)
      go_returns
      refine ⟨by rw [HR.out], ?_⟩
      repeat (first | exact HW.out | (with_reducible refine below_last ?_ _))
  · rw [show base9 md rm = rm by unfold base9; rw [if_neg h5]]
    by_cases hm0 : md = 0
    · subst hm0
      have e5 : (rm == 5) = false := by simp at h5; simpa using h5
      clear h5 e3
      go_enter Try.func6, Try.ntmps6
      go_wp2_with (first | (go_at_call 10; (with_reducible refine (HL.out _ ((Below.refl _ _).alloc (Nat.le_refl _) _)).mono ?_); rintro e w' ⟨rfl, rfl⟩) | (go_at_call 11; refine (HF.out _).mono ?_; rintro e w' ⟨rfl, rfl⟩))
      go_region_with (go_at_call 12; (with_reducible refine (HM.out _).mono ?_); rintro e w' ⟨rfl, rfl⟩)
      all_goals
        go_wp2_with fail
        go_region_with (go_at_call 14; (with_reducible refine (HX.out _).mono ?_); rintro e w' ⟨rfl, nq, rfl⟩; simp only [drew_alloc, drewN_alloc]; have hsz : (w.drew.drew.drewN nq).heap.size = w.heap.size := drewN_size w.drew.drew nq; have HU := Lib.hid (below_drN (Below.refl w.heap.size w).drew.drew nq); rw [← hsz]; clear hsz; generalize w.drew.drew.drewN nq = u2 at HU ⊢)
        go_wp2_with (go_at_call 15; (with_reducible refine (HS.out _ (by repeat (first | exact HU.out | exact Below.refl _ _ | (with_reducible refine Below.drew ?_) | (with_reducible refine below_last ?_ _)))).mono ?_); rintro e w' ⟨rfl, nq2, rfl⟩; simp only [drewN_alloc]; have hsz : (u2.drewN nq2).heap.size = u2.heap.size := drewN_size u2 nq2; have HW := Lib.hid (below_drN HU.out nq2); rw [← hsz]; clear hsz; generalize u2.drewN nq2 = u3 at HW ⊢)
        go_returns
        refine ⟨by rw [HR.out], ?_⟩
        repeat (first | exact HW.out | (with_reducible refine below_last ?_ _))
    · have e0 : (md == 0) = false := by simpa using hm0
      clear hm0 h5
      go_enter Try.func6, Try.ntmps6
      go_wp2_with (first | (go_at_call 10; (with_reducible refine (HL.out _ ((Below.refl _ _).alloc (Nat.le_refl _) _)).mono ?_); rintro e w' ⟨rfl, rfl⟩) | (go_at_call 11; refine (HF.out _).mono ?_; rintro e w' ⟨rfl, rfl⟩))
      go_region_with (go_at_call 12; (with_reducible refine (HM.out _).mono ?_); rintro e w' ⟨rfl, rfl⟩)
      all_goals
        go_wp2_with fail
        go_region_with (go_at_call 14; (with_reducible refine (HX.out _).mono ?_); rintro e w' ⟨rfl, nq, rfl⟩; simp only [drew_alloc, drewN_alloc]; have hsz : (w.drew.drew.drewN nq).heap.size = w.heap.size := drewN_size w.drew.drew nq; have HU := Lib.hid (below_drN (Below.refl w.heap.size w).drew.drew nq); rw [← hsz]; clear hsz; generalize w.drew.drew.drewN nq = u2 at HU ⊢)
        go_wp2_with (go_at_call 15; (with_reducible refine (HS.out _ (by repeat (first | exact HU.out | exact Below.refl _ _ | (with_reducible refine Below.drew ?_) | (with_reducible refine below_last ?_ _)))).mono ?_); rintro e w' ⟨rfl, nq2, rfl⟩; simp only [drewN_alloc]; have hsz : (u2.drewN nq2).heap.size = u2.heap.size := drewN_size u2 nq2; have HW := Lib.hid (below_drN HU.out nq2); rw [← hsz]; clear hsz; generalize u2.drewN nq2 = u3 at HW ⊢)
        go_returns
        refine ⟨by rw [HR.out], ?_⟩
        repeat (first | exact HW.out | (with_reducible refine below_last ?_ _))
set_option maxRecDepth 100000 in
set_option maxHeartbeats 2000000 in
theorem mrread_b (L : Nat) (bs : Nat → Int) (hb : ∀ i, 0 ≤ bs i ∧ bs i < 256) (ad : Addr) (cap : Nat) (w : World) (hl : L ≤ cap) (hc : ∀ i, i < L → w.cell? (ad.add i) = some (.int .u8 (bs i))) (hL : L ≤ maxLen) (hL0 : 1 ≤ L) (h3 : bs 0 / 64 = 3) :
    Calls Try.prog 6 #[.slice (some ad) L cap] w fun e w' => e = .returned (.tuple #[.agg #[.int .i64 1, .int .i64 (bs 0 % 8), .int .i64 (-1), .int .i64 (-1), .int .i64 1, .int .u32 0], .int .i64 (bs 0 / 8 % 8), .int .i64 1, .int .i64 0]) ∧ Below w.heap.size w w' := by
  have hc0 : w.cell? ad = some (.int .u8 (bs 0)) := by simpa [Addr.add] using hc 0 (by omega)
  have hs : Slc .u8 w (.slice (some ad) L cap) L bs := .inr ⟨ad, cap, rfl, hl, hc⟩
  have HL := fun (u : World) (hu : Below w.heap.size w u) => mlength_any _ L bs hb u (hs.below hu) hL
  rw [show lenF L bs = 1 by unfold lenF; rw [if_neg (by omega), if_pos h3]] at HL
  clear hs
  have HF := mfields_any (bs 0) (hb 0).1 (hb 0).2
  rw [h3] at HF
  have HM := mmemory_any (bs 0 % 8)
  have HX := mregister_any (bs 0 % 8)
  unfold maxLen at hL
  have HS := (fun (u : World) (hu : Below w.heap.size w u) => mnumber_any _ 0 _ (fun i => hb (1 + i)) u ((slc_cut hc 1 0 (cap - 1) (by omega) (by omega) (by omega) (cutA ad cap 1) (fun hm => by omega)).below hu) (by omega))
  rw [show disp9 0 (fun i => bs (1 + i)) 0 = 0 from rfl] at HS
  have HS := Lib.hid HS
  have hA : ∀ o, (w.alloc o).cell? ad = some (.int .u8 (bs 0)) := fun o => cell_alloc hc0
  clear hc hb h3
  generalize hrm : bs 0 % 8 = rm at *
  generalize hrg : bs 0 / 8 % 8 = rg at *
  clear hrm hrg
  have HL := Lib.hid HL
  have HF := Lib.hid HF
  have HM := Lib.hid HM
  have HX := Lib.hid HX
  have i0 : (0 : Int) < (L : Int) := by omega
  have i0' : 0 < L := by omega
  have eL : decide ((L : Int) < 1) = false := by simp; omega
  have q2 : (1 : Int) ≤ (cap : Int) := by omega
  have hsl := fun u => slice_from ad L cap 1 0 (by omega) 1 1 rfl rfl u
  go_enter Try.func6, Try.ntmps6
  go_wp2_with (first | (go_at_call 10; (with_reducible refine (HL.out _ ((Below.refl _ _).alloc (Nat.le_refl _) _)).mono ?_); rintro e w' ⟨rfl, rfl⟩) | (go_at_call 11; refine (HF.out _).mono ?_; rintro e w' ⟨rfl, rfl⟩))
  go_region_with (go_at_call 12; (with_reducible refine (HM.out _).mono ?_); rintro e w' ⟨rfl, rfl⟩)
  all_goals
    go_wp2_with (first | (go_at_call 13; (with_reducible refine (HX.out _).mono ?_); rintro e w' ⟨rfl, rfl⟩) | (go_at_call 15; (with_reducible refine (HS.out _ (by repeat (first | exact Below.refl _ _ | (with_reducible refine Below.drew ?_) | (with_reducible refine below_last ?_ _)))).mono ?_); rintro e w' ⟨rfl, nq, rfl⟩; simp only [drew_alloc, drewN_alloc]; have hsz : (w.drew.drewN nq).heap.size = w.heap.size := drewN_size w.drew nq; have HU := Lib.hid (below_drN (Below.refl w.heap.size w).drew nq); rw [← hsz]; clear hsz; generalize w.drew.drewN nq = u2 at HU ⊢))
    go_returns
    refine ⟨rfl, ?_⟩
    repeat (first | exact HU.out | (with_reducible refine below_last ?_ _))
theorem mrread_a (v : Value) (L : Nat) (bs : Nat → Int) (hb : ∀ i, 0 ≤ bs i ∧ bs i < 256) (w : World) (hs : Slc .u8 w v L bs) (hL : L ≤ maxLen) (h : L < lenF L bs) :
    Calls Try.prog 6 #[v] w fun e w' => e = .returned (.tuple #[.agg #[.int .i64 0, .int .i64 0, .int .i64 0, .int .i64 0, .int .i64 0, .int .u32 0], .int .i64 0, .int .i64 0, .int .i64 21]) ∧ Below w.heap.size w w' := by
  have HL := fun (u : World) (hu : Below w.heap.size w u) => mlength_any _ L bs hb u (hs.below hu) hL
  have hl := lenF_le L bs
  obtain ⟨a, cap, rfl⟩ := hs.len
  generalize lenF L bs = M at *
  have HL := Lib.hid HL
  have eL : decide ((L : Int) < (M : Int)) = true := by simp; omega
  have eL' : decide (L < M) = true := by simp; omega
  unfold maxLen at hL
  clear hs hb
  go_enter Try.func6, Try.ntmps6
  go_wp2_with (go_at_call 10; (with_reducible refine (HL.out _ ((Below.refl _ _).alloc (Nat.le_refl _) _)).mono ?_); rintro e w' ⟨rfl, rfl⟩)
  go_returns
  exact ⟨rfl, (Below.refl _ _).alloc (Nat.le_refl _) _⟩
theorem lenF_some {L : Nat} {bs : Nat → Int} (h : lenF L bs ≤ L) (h3 : bs 0 / 64 ≠ 3) :
    1 ≤ L ∧ ((bs 0 % 8 ≠ 4 ∧ 1 + more9 (bs 0 / 64) (bs 0 % 8) ≤ L) ∨ (bs 0 % 8 = 4 ∧ 2 + more9 (bs 0 / 64) (bs 1 % 8) ≤ L)) := by
  unfold lenF at h
  by_cases h0 : L = 0
  · rw [if_pos h0] at h; omega
  · rw [if_neg h0, if_neg h3] at h
    refine ⟨by omega, ?_⟩
    by_cases h4 : bs 0 % 8 = 4
    · rw [if_neg (by omega)] at h
      by_cases h1 : L = 1
      · rw [if_pos h1] at h; omega
      · rw [if_neg h1] at h
        exact .inr ⟨h4, h⟩
    · rw [if_pos h4] at h
      exact .inl ⟨h4, h⟩
theorem mrread_any (v : Value) (L : Nat) (bs : Nat → Int) (hb : ∀ i, 0 ≤ bs i ∧ bs i < 256) (w : World) (hs : Slc .u8 w v L bs) (hL : L ≤ maxLen) :
    Calls Try.prog 6 #[v] w fun e w' => e = .returned (rmV L bs) ∧ Below w.heap.size w w' := by
  by_cases h : L < lenF L bs
  · rw [rmV_none (lenF_none h)]
    exact mrread_a v L bs hb w hs hL h
  · have hle : 1 ≤ L := by have := lenF_le L bs; omega
    rcases id hs with ⟨_, h0⟩ | ⟨ad, cap, rfl, hl, hc⟩
    · omega
    by_cases h3 : bs 0 / 64 = 3
    · rw [rmV_some (show rmF L bs = some (⟨1, bs 0 % 8, -1, -1, 1, 0⟩, bs 0 / 8 % 8, 1) by unfold rmF; rw [if_neg (by omega), if_pos h3])]
      exact mrread_b L bs hb ad cap w hl hc hL hle h3
    · obtain ⟨_, hq⟩ := lenF_some (L := L) (by omega) h3
      rcases hq with ⟨h4, hn⟩ | ⟨h4, hn⟩
      · rw [rmV_some (show rmF L bs = some (⟨3, 0, base9 (bs 0 / 64) (bs 0 % 8), -1, 1, disp9 (more9 (bs 0 / 64) (bs 0 % 8)) bs 1⟩, bs 0 / 8 % 8, 1 + more9 (bs 0 / 64) (bs 0 % 8)) by unfold rmF; rw [if_neg (by omega), if_neg h3, if_neg h4, if_neg (by omega)])]
        exact mrread_c L bs hb ad cap w hl hc hL hle h3 h4 hn
      · rw [rmV_some (show rmF L bs = some (⟨3, 0, base9 (bs 0 / 64) (bs 1 % 8), sibI (bs 1), sibS (bs 1), disp9 (more9 (bs 0 / 64) (bs 1 % 8)) bs 2⟩, bs 0 / 8 % 8, 2 + more9 (bs 0 / 64) (bs 1 % 8)) by unfold rmF; rw [if_neg (by omega), if_neg h3, if_pos h4, if_neg (by omega), if_neg (by omega)])]
        exact mrread_d L bs hb ad cap w hl hc hL h3 h4 hn
end Go.Proofs.Ytblililckmbafaa
