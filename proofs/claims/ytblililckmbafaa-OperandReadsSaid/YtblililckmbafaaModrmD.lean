/- The landed package modrm: which operand bytes are. -/
import Derived.Test.YtblililckmbafaaModrmB
import Derived.Deep.DeepCutAuto
import Derived.Deep.RegionWith
namespace Go.Proofs.Ytblililckmbafaa
open Go.ChangeShapes Go.WideShapes Go.ChangeAt Go.RowKit

theorem below_drN {B : Nat} {a w : World} (h : Below B a w) (n : Nat) : Below B a (w.drewN n) := ⟨h.os, h.tape, h.output, h.size, h.block⟩
theorem disp9_sh (k : Nat) (bs : Nat → Int) (n : Nat) : disp9 k (fun i => bs (n + i)) 0 = disp9 k bs n := by unfold disp9; simp
theorem add_pos (ad : Addr) (n : Nat) (h : n ≠ 0) : ad.add n = ⟨ad.block, ad.off + n, none⟩ := by unfold Addr.add; rw [if_neg h]
theorem slc_cut {k : IntKind} {w : World} {ad : Addr} {L : Nat} {bs : Nat → Int} (hc : ∀ i, i < L → w.cell? (ad.add i) = some (.int k (bs i))) (s m c : Nat) (hm : m ≤ c) (hs : s + m ≤ L) (ho : s ≠ 0) (p : Addr) (hp : 0 < m → p = ⟨ad.block, ad.off + s, none⟩) : Slc k w (.slice (some p) m c) m (fun i => bs (s + i)) :=
  .inr ⟨p, c, rfl, hm, fun i hi => by
    rw [hp (by omega), addr_add]
    have := hc (s + i) (by omega)
    rw [add_pos _ _ (by omega)] at this
    rw [← this, Nat.add_assoc]⟩
/-- where the rest begins -/
def cutA (ad : Addr) (cap s : Nat) : Addr := if cap = s then ad else ad.add s
theorem slice_from (ad : Addr) (L cap s m : Nat) (h : s + m ≤ cap) (ks ks' : Int) (e1 : ks = s) (e2 : ks' = s + m) (w : World) :
    (Instr.sliceAt 22 (.slice (some ad) L cap) (some (.int .i64 ks)) (some (.int .i64 ks')) none).run Try.prog w = .ok (.slice (some (cutA ad cap s)) m (cap - s)) w := by
  have hE : Try.prog.elem 22 = 5 := by kernel_rfl
  have hz : (sizeOf (Try.prog.elem 22)).run Try.prog w = .ok 1 w := by kernel_rfl
  have hu : Try.prog.underlying 22 = some (.slice (Try.prog.elem 22)) := by rw [hE]; exact Try.underlying22
  rw [run_sliceAt_slice w _ _ _ _ _ hu, run_slice_lh w _ _ _ _ hu .i64 .i64 ks ks' (by omega) (by omega) (by omega), hz]
  subst e1 e2
  simp only [Result.andThen, sliced, Option.map_some, Nat.mul_one, Int.toNat_natCast]
  rw [show ((s : Int) + (m : Int)).toNat = s + m by omega, show s + m - s = m by omega]
  unfold cutA
  split <;> simp_all
set_option maxRecDepth 100000 in
set_option maxHeartbeats 1000000 in
theorem mrread_c (L : Nat) (bs : Nat → Int) (hb : ∀ i, 0 ≤ bs i ∧ bs i < 256) (ad : Addr) (cap : Nat) (w : World) (hl : L ≤ cap) (hc : ∀ i, i < L → w.cell? (ad.add i) = some (.int .u8 (bs i))) (hL : L ≤ maxLen) (hL0 : 1 ≤ L) (h3 : bs 0 / 64 ≠ 3) (h4 : bs 0 % 8 ≠ 4) (hn : 1 + more9 (bs 0 / 64) (bs 0 % 8) ≤ L) :
    Calls Try.prog 6 #[.slice (some ad) L cap] w fun e w' => e = .returned (.tuple #[.agg #[.int .i64 3, .int .i64 0, .int .i64 (base9 (bs 0 / 64) (bs 0 % 8)), .int .i64 (-1), .int .i64 1, .int .u32 (disp9 (more9 (bs 0 / 64) (bs 0 % 8)) bs 1)], .int .i64 (bs 0 / 8 % 8), .int .i64 (1 + more9 (bs 0 / 64) (bs 0 % 8) : Nat), .int .i64 0]) ∧ Below w.heap.size w w' := by
  have hc0 : w.cell? ad = some (.int .u8 (bs 0)) := by simpa [Addr.add] using hc 0 (by omega)
  have hs : Slc .u8 w (.slice (some ad) L cap) L bs := .inr ⟨ad, cap, rfl, hl, hc⟩
  have HL := fun (u : World) (hu : Below w.heap.size w u) => mlength_any _ L bs hb u (hs.below hu) hL
  rw [show lenF L bs = 1 + more9 (bs 0 / 64) (bs 0 % 8) by unfold lenF; rw [if_neg (by omega), if_neg h3, if_pos h4]] at HL
  clear hs
  have HF := mfields_any (bs 0) (hb 0).1 (hb 0).2
  have HM := mmemory_any (bs 0 % 8)
  have hm := more9_le (bs 0 / 64) (bs 0 % 8)
  have e3 : (bs 0 / 64 == 3) = false := by simpa using h3
  have e4 : (bs 0 % 8 == 4) = false := by simpa using h4
  unfold maxLen at hL
  generalize more9 (bs 0 / 64) (bs 0 % 8) = M at *
  have HS := (fun (u : World) (hu : Below w.heap.size w u) => mnumber_any _ M _ (fun i => hb (1 + i)) u ((slc_cut hc 1 M (cap - 1) (by omega) (by omega) (by omega) (cutA ad cap 1) (fun hm => by unfold cutA; rw [if_neg (by omega)]; exact add_pos _ _ (by omega))).below hu) (by omega))
  rw [disp9_sh] at HS
  have HS := Lib.hid HS
  have HC := Lib.hid hc
  have hA : ∀ o, (w.alloc o).cell? ad = some (.int .u8 (bs 0)) := fun o => cell_alloc hc0
  clear hc hb h3 h4
  generalize hmd : bs 0 / 64 = md at *
  generalize hrm : bs 0 % 8 = rm at *
  generalize hrg : bs 0 / 8 % 8 = rg at *
  clear hmd hrm hrg
  obtain ⟨n, hnn⟩ : ∃ n, n = 1 + M := ⟨_, rfl⟩
  have HL := Lib.hid HL
  have HF := Lib.hid HF
  have HM := Lib.hid HM
  have i0 : (0 : Int) < (L : Int) := by omega
  have i0' : 0 < L := by omega
  have eL : decide ((L : Int) < ((1 + M : Nat) : Int)) = false := by simp; omega
  have eL' : decide (L < 1 + M) = false := by simp; omega
  have q1 : (1 : Int) ≤ ((1 + M : Nat) : Int) := by omega
  have q2 : ((1 + M : Nat) : Int) ≤ (cap : Int) := by omega
  have hsl := fun u => slice_from ad L cap 1 M (by omega) 1 (1 + (M : Int)) rfl rfl u
  have HR := Lib.hid (show (1 + (M : Int)) = ((1 + M : Nat) : Int) by omega)
  by_cases h5 : md = 0 ∧ rm = 5
  · obtain ⟨rfl, rfl⟩ := h5
    rw [show base9 0 5 = -1 by rfl]
    clear e3 e4
    go_enter Try.func6, Try.ntmps6
    go_wp2_with (first | (go_at_call 10; (with_reducible refine (HL.out _ ((Below.refl _ _).alloc (Nat.le_refl _) _)).mono ?_); rintro e w' ⟨rfl, rfl⟩) | (go_at_call 11; refine (HF.out _).mono ?_; rintro e w' ⟨rfl, rfl⟩))
    go_region_with (go_at_call 12; (with_reducible refine (HM.out _).mono ?_); rintro e w' ⟨rfl, rfl⟩)
    all_goals
      go_wp2_with (go_at_call 15; (with_reducible refine (HS.out _ (by repeat (first | exact Below.refl _ _ | (with_reducible refine Below.drew ?_) | (with_reducible refine below_last ?_ _)))).mono ?_); rintro e w' ⟨rfl, nq, rfl⟩; simp only [drew_alloc, drewN_alloc]; have hsz : (w.drew.drewN nq).heap.size = w.heap.size := drewN_size w.drew nq; have HU := Lib.hid (below_drN (Below.refl w.heap.size w).drew nq); rw [← hsz]; clear hsz; generalize w.drew.drewN nq = u2 at HU ⊢)
      go_returns
      refine ⟨by rw [HR.out], ?_⟩
      repeat (first | exact HU.out | (with_reducible refine below_last ?_ _))
  · rw [show base9 md rm = rm by unfold base9; rw [if_neg h5]]
    by_cases hm0 : md = 0
    · subst hm0
      have e5 : (rm == 5) = false := by simp at h5; simpa using h5
      clear h5 e3
      go_enter Try.func6, Try.ntmps6
      go_wp2_with (first | (go_at_call 10; (with_reducible refine (HL.out _ ((Below.refl _ _).alloc (Nat.le_refl _) _)).mono ?_); rintro e w' ⟨rfl, rfl⟩) | (go_at_call 11; refine (HF.out _).mono ?_; rintro e w' ⟨rfl, rfl⟩))
      go_region_with (go_at_call 12; (with_reducible refine (HM.out _).mono ?_); rintro e w' ⟨rfl, rfl⟩)
      all_goals
        go_wp2_with (go_at_call 15; (with_reducible refine (HS.out _ (by repeat (first | exact Below.refl _ _ | (with_reducible refine Below.drew ?_) | (with_reducible refine below_last ?_ _)))).mono ?_); rintro e w' ⟨rfl, nq, rfl⟩; simp only [drew_alloc, drewN_alloc]; have hsz : (w.drew.drewN nq).heap.size = w.heap.size := drewN_size w.drew nq; have HU := Lib.hid (below_drN (Below.refl w.heap.size w).drew nq); rw [← hsz]; clear hsz; generalize w.drew.drewN nq = u2 at HU ⊢)
        go_returns
        refine ⟨by rw [HR.out], ?_⟩
        repeat (first | exact HU.out | (with_reducible refine below_last ?_ _))
    · have e0 : (md == 0) = false := by simpa using hm0
      clear hm0 h5
      go_enter Try.func6, Try.ntmps6
      go_wp2_with (first | (go_at_call 10; (with_reducible refine (HL.out _ ((Below.refl _ _).alloc (Nat.le_refl _) _)).mono ?_); rintro e w' ⟨rfl, rfl⟩) | (go_at_call 11; refine (HF.out _).mono ?_; rintro e w' ⟨rfl, rfl⟩))
      go_region_with (go_at_call 12; (with_reducible refine (HM.out _).mono ?_); rintro e w' ⟨rfl, rfl⟩)
      all_goals
        go_wp2_with (go_at_call 15; (with_reducible refine (HS.out _ (by repeat (first | exact Below.refl _ _ | (with_reducible refine Below.drew ?_) | (with_reducible refine below_last ?_ _)))).mono ?_); rintro e w' ⟨rfl, nq, rfl⟩; simp only [drew_alloc, drewN_alloc]; have hsz : (w.drew.drewN nq).heap.size = w.heap.size := drewN_size w.drew nq; have HU := Lib.hid (below_drN (Below.refl w.heap.size w).drew nq); rw [← hsz]; clear hsz; generalize w.drew.drewN nq = u2 at HU ⊢)
        go_returns
        refine ⟨by rw [HR.out], ?_⟩
        repeat (first | exact HU.out | (with_reducible refine below_last ?_ _))
end Go.Proofs.Ytblililckmbafaa
