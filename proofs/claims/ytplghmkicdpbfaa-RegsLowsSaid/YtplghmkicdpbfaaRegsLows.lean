/- A register's two lowest bytes are its low registers, and a byte stays one. -/
import Derived.Test.YtplghmkicdpbfaaRegC
import Derived.Test.YtplghmkicdpbfaaBits13b
namespace Go.Proofs.Ytplghmkicdpbfaa
open Go.ChangeShapes Go.WideShapes Go.ChangeAt Go.RowKit

theorem low_get (s : Sta) (j : Nat) (hj : j < 4) : getG s (⟨2, (j : Int), 0, 0, 0, 0⟩ : Opd) = s.r j % 256 ∧ getG s (⟨2, (j : Int) + 4, 0, 0, 0, 0⟩ : Opd) = s.r j / 256 % 256 ∧ getG s (⟨1, (j : Int), 0, 0, 0, 0⟩ : Opd) = s.r j := by
  rcases (show j = 0 ∨ j = 1 ∨ j = 2 ∨ j = 3 by omega) with rfl | rfl | rfl | rfl <;> simp [getG, getF]
theorem low_set (s : Sta) (j : Nat) (hj : j < 4) (v u : Int) : (setF (setF s (⟨2, (j : Int), 0, 0, 0, 0⟩ : Opd) v) (⟨2, (j : Int) + 4, 0, 0, 0, 0⟩ : Opd) u).r j = byteF (byteF (s.r j) v false) u true := by
  rcases (show j = 0 ∨ j = 1 ∨ j = 2 ∨ j = 3 by omega) with rfl | rfl | rfl | rfl <;> simp [setF, putN]
set_option maxRecDepth 100000 in
set_option maxHeartbeats 8000000 in
theorem regslows_walk (LG : GetC 8) (LS : SetC 7) (HK : ∀ w : World, Calls Try.prog 6 #[] w fun e w' => e = .returned (.bool true) ∧ Below w.heap.size w w')
    (s : Sta) (k v : Int) (hs : StaOk s) (k0 : 0 ≤ k) (k1 : k < 256) (v0 : 0 ≤ v) (v1 : v < 18446744073709551616) (w : World) :
    Calls Try.prog 5 #[staV s, .int .u8 k, .int .u64 v] w fun e w' => e = .returned (.bool true) ∧ Below w.heap.size w w' := by
  have HK := Lib.hid HK
  obtain ⟨j, hj⟩ : ∃ j : Nat, k % 4 = j := ⟨(k % 4).toNat, by omega⟩
  have j4 : j < 4 := by omega
  obtain ⟨R, hR⟩ : ∃ R, s.r j = R := ⟨_, rfl⟩
  have hr := hs.r j (by omega)
  obtain ⟨G1, G2, G3⟩ := low_get s j j4
  obtain ⟨T1, hT1⟩ : ∃ T, setF s (⟨2, (j : Int), 0, 0, 0, 0⟩ : Opd) v = T := ⟨_, rfl⟩
  obtain ⟨T2, hT2⟩ : ∃ T, setF T1 (⟨2, (j : Int) + 4, 0, 0, 0, 0⟩ : Opd) (v / 256) = T := ⟨_, rfl⟩
  have ok1 : StaOk T1 := by rw [← hT1]; exact set_ok hs _ v v0 v1
  have hTr := low_set s j j4 v (v / 256)
  rw [hT1, hT2] at hTr
  rw [hR] at hr G1 G2 G3 hTr
  have hbb : byteF (byteF R v false) (v / 256) true = R / 65536 * 65536 + v % 65536 := by unfold byteF; simp only [if_true, Bool.false_eq_true, if_false]; omega
  rw [hbb] at hTr
  have H1 := fun u => LG s (⟨2, (j : Int), 0, 0, 0, 0⟩ : Opd) hs (Int.le_refl _) (by show (0 : Int) < _; decide) u
  have H2 := fun u => LG s (⟨2, (j : Int) + 4, 0, 0, 0, 0⟩ : Opd) hs (Int.le_refl _) (by show (0 : Int) < _; decide) u
  have H3 := fun u => LG s (⟨1, (j : Int), 0, 0, 0, 0⟩ : Opd) hs (Int.le_refl _) (by show (0 : Int) < _; decide) u
  have H4 := fun u => LS s (⟨2, (j : Int), 0, 0, 0, 0⟩ : Opd) v hs v0 v1 u
  have H5 := fun u => LS T1 (⟨2, (j : Int) + 4, 0, 0, 0, 0⟩ : Opd) (v / 256) ok1 (by omega) (by omega) u
  rw [G1, show opV (⟨2, (j : Int), 0, 0, 0, 0⟩ : Opd) = .agg #[.int .i64 2, .int .i64 (j : Int), .int .i64 0, .int .i64 0, .int .i64 0, .int .u32 0] from rfl] at H1
  rw [G2, show opV (⟨2, (j : Int) + 4, 0, 0, 0, 0⟩ : Opd) = .agg #[.int .i64 2, .int .i64 ((j : Int) + 4), .int .i64 0, .int .i64 0, .int .i64 0, .int .u32 0] from rfl] at H2
  rw [G3, show opV (⟨1, (j : Int), 0, 0, 0, 0⟩ : Opd) = .agg #[.int .i64 1, .int .i64 (j : Int), .int .i64 0, .int .i64 0, .int .i64 0, .int .u32 0] from rfl] at H3
  rw [hT1, show opV (⟨2, (j : Int), 0, 0, 0, 0⟩ : Opd) = .agg #[.int .i64 2, .int .i64 (j : Int), .int .i64 0, .int .i64 0, .int .i64 0, .int .u32 0] from rfl] at H4
  rw [hT2, show opV (⟨2, (j : Int) + 4, 0, 0, 0, 0⟩ : Opd) = .agg #[.int .i64 2, .int .i64 ((j : Int) + 4), .int .i64 0, .int .i64 0, .int .i64 0, .int .u32 0] from rfl] at H5
  rw [show staV s = .agg (staL s).toArray from rfl] at H1 H2 H3 H4
  obtain ⟨Qv, hQv⟩ : ∃ Q, R / 65536 * 65536 + v % 65536 = Q := ⟨_, rfl⟩
  have q0 : 0 ≤ Qv := by omega
  have q1 : Qv < 4294967296 := by omega
  rw [hQv] at hTr
  have HTR := Lib.hid hTr
  have HJ := Lib.hid j4
  have x1 : bits .and .u64 R 65535 = R % 65536 := and_low R hr.1 (by omega)
  have x2 : bits .or .u64 (R / 256 % 256 * 256) (R % 256) = R % 65536 := by rw [or_bytes _ _ (by omega) (by omega) (by omega) (by omega)]; omega
  have x3 : bits .and .u64 v 65535 = v % 65536 := and_low v v0 v1
  have x4 : bits .or .u64 (bits .andNot .u64 R 65535) (v % 65536) = Qv := (put_word R _ hr.1 hr.2 (by omega) (by omega)).trans hQv
  have r0 := hr.1
  have r1 := hr.2
  have H1 := Lib.hid H1
  have H2 := Lib.hid H2
  have H3 := Lib.hid H3
  have H4 := Lib.hid H4
  have H5 := Lib.hid H5
  have jj : (j : Int) < 4 := by omega
  clear hQv hs G1 G2 G3 hT1 hT2 ok1 hTr hbb hr hR
  unfold staV
  go_enter Try.func5, Try.ntmps5
  go_wp2_with fail
  refine (HK.out _).mono ?_
  rintro e w1 ⟨rfl, b1⟩
  have g1 : w1.heap[w.heap.size]? = some (.cells (staL s).toArray 29 (0, 0)) := (b1.block _ (by simp)).trans (by show (w.heap.push _)[w.heap.size]? = _; simp)
  have HR := Lib.hid (range_in13 g1 0 (staL s) rfl)
  have HZ := Lib.hid (Array.getElem?_eq_some_iff.1 g1).1
  have HB1 := Lib.hid ((below_last (Below.refl w.heap.size w) (.cells (staL s).toArray 29)).trans (b1.mono (by simp)))
  have HRB := Lib.hid (show ∀ u, Below w1.heap.size w1 u → u.rangeAt w.heap.size 0 (staL s) from fun u hu i y hi => (hu.cell (p := ⟨w.heap.size, 0 + i, none⟩) HZ.out).trans (HR.out i y hi))
  have HU1 := Lib.hid (Below.refl w1.heap.size w1)
  clear g1 b1
  go_wp2_with (refine wpList_load_mid rfl 29 (.tmp 3) rfl w.heap.size 0 rfl (staL s) _ (HRB.out _ HU1.out) Try.underlying29 rfl info_sta ?_)
  ((with_reducible refine (H1.out _).mono ?_); rintro e w2 ⟨rfl, b2⟩)
  have HU2 := Lib.hid (HU1.out.trans (b2.mono HU1.out.size))
  clear b2
  go_wp2_with (refine wpList_load_mid rfl 29 (.tmp 3) rfl w.heap.size 0 rfl (staL s) _ (HRB.out _ HU2.out) Try.underlying29 rfl info_sta ?_)
  ((with_reducible refine (H2.out _).mono ?_); rintro e w3 ⟨rfl, b3⟩)
  have HU3 := Lib.hid (HU2.out.trans (b3.mono HU2.out.size))
  clear b3
  go_wp2_with (refine wpList_load_mid rfl 29 (.tmp 3) rfl w.heap.size 0 rfl (staL s) _ (HRB.out _ HU3.out) Try.underlying29 rfl info_sta ?_)
  ((with_reducible refine (H3.out _).mono ?_); rintro e w4 ⟨rfl, b4⟩)
  have HU4 := Lib.hid (HU3.out.trans (b4.mono HU3.out.size))
  clear b4
  go_wp2_with (refine wpList_load_mid rfl 29 (.tmp 3) rfl w.heap.size 0 rfl (staL s) _ (HRB.out _ HU4.out) Try.underlying29 rfl info_sta ?_)
  ((with_reducible refine (H4.out _).mono ?_); rintro e w5 ⟨rfl, b5⟩)
  have HU5 := Lib.hid (HU4.out.trans (b5.mono HU4.out.size))
  clear b5
  rw [show staV T1 = .agg (staL T1).toArray from rfl]
  have H5 := H5.out
  rw [show staV T1 = .agg (staL T1).toArray from rfl] at H5
  have H5 := Lib.hid H5
  go_wp2_with fail
  ((with_reducible refine (H5.out _).mono ?_); rintro e w6 ⟨rfl, b6⟩)
  have HU6 := Lib.hid (HU5.out.trans (b6.mono HU5.out.size))
  clear b6
  rw [show staV T2 = .agg (staL T2).toArray from rfl]
  have HTH := Lib.hid (there_alloc_new w6 #[.int .u32 0, .int .u32 0, .int .u32 0, .int .u32 0, .int .u32 0, .int .u32 0, .int .u32 0, .int .u32 0, .int .u32 0, .bool false, .bool false, .bool false, .bool false, .bool false, .bool false, .int .u64 0, .int .u64 0, .int .u64 0, .int .u64 0, .int .u64 0, .int .u64 0, .int .u64 0, .int .u64 0] 29 23 (by decide))
  go_wp2_with (refine store_row rfl 29 (.tmp 11) (.tmp 40) rfl w6.heap.size rfl (staL T2) rfl _ Try.underlying29 rfl info_sta (sta_one T2) HTH.out ?_; intro Y hY hl; clear hl; have HYB := Lib.hid (show Below w6.heap.size w6 Y by rw [hY]; exact below_setCells (Nat.le_refl _) _ _ _ (below_last (Below.refl _ _) _)); have HY := (show Y.cell? ⟨w6.heap.size, j, none⟩ = some (.int .u32 Qv) by rw [hY, ← HTR.out]; have hh := World.rangeAt_setCells_same _ w6.heap.size 0 (staL T2) HTH.out; have h2 := hh j _ (sta_r T2 j (by omega)); rwa [Nat.zero_add] at h2); clear hY)
  go_returns
  exact ⟨rfl, HB1.out.trans ((HU6.out.trans (HYB.out.mono HU6.out.size)).mono HB1.out.size)⟩
end Go.Proofs.Ytplghmkicdpbfaa
