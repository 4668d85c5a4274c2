import Derived.BigQuiet
import Derived.Deep.QuietTactic
import Derived.Deep.RegionHeld3
import Derived.StillTailTactics
import Derived.Deep.DeepCutAuto
import Derived.Test.YtbbegbaaefgikaaKTP
import Derived.Test.YtbbegbaaefgikaaKTR
namespace Go.Proofs.Ytbbegbaaefgikaa
open Go.ChangeShapes Go.WideShapes Go.ChangeAt Go.RowKit
set_option maxRecDepth 100000
structure BAt (w : World) (b p : Nat) (c d : Sg) : Prop where
  m : w.cell? ⟨b, 0, none⟩ = some (.pointer (some ⟨p, 0, none⟩))
  c1 : w.cell? ⟨b, 1, none⟩ = some (.int .u32 c.b)
  c2 : w.cell? ⟨b, 2, none⟩ = some (.int .u32 c.z)
  c3 : w.cell? ⟨b, 3, none⟩ = some (.bool c.r)
  c4 : w.cell? ⟨b, 4, none⟩ = some (.bool c.q)
  c5 : w.cell? ⟨b, 5, none⟩ = some (.bool c.x)
  d1 : w.cell? ⟨b, 6, none⟩ = some (.int .u32 d.b)
  d2 : w.cell? ⟨b, 7, none⟩ = some (.int .u32 d.z)
  d3 : w.cell? ⟨b, 8, none⟩ = some (.bool d.r)
  d4 : w.cell? ⟨b, 9, none⟩ = some (.bool d.q)
  d5 : w.cell? ⟨b, 10, none⟩ = some (.bool d.x)
  fz : ∀ o, w.frozen? ⟨b, o, none⟩ = false
theorem BAt.lt {w : World} {b p : Nat} {c d : Sg} (h : BAt w b p c d) : b < w.heap.size := cell_lt h.m
theorem BAt.but {G : Nat → Prop} {w w' : World} {b p : Nat} {c d : Sg} (h : BAt w b p c d) (hb : But G w w') (hn : ¬ G b) : BAt w' b p c d :=
  ⟨hb.cell h.m hn, hb.cell h.c1 hn, hb.cell h.c2 hn, hb.cell h.c3 hn, hb.cell h.c4 hn, hb.cell h.c5 hn, hb.cell h.d1 hn, hb.cell h.d2 hn, hb.cell h.d3 hn, hb.cell h.d4 hn, hb.cell h.d5 hn, fun o => by rw [hb.frozen h.lt hn, h.fz o]⟩
theorem BAt.below {w w' : World} {b p : Nat} {c d : Sg} (h : BAt w b p c d) (hb : Below w.heap.size w w') : BAt w' b p c d := h.but (G := fun _ => False) (But.of_below hb) (fun h => h)
def PBus (w : World) (b : Nat) (F : Nat → Prop) (g : Int → Int) (pg : Int → Bool) (c d : Sg) : Prop :=
  ∃ p Fm, PMem w p Fm g pg ∧ BAt w b p c d ∧ (∀ k, Fm k → F k) ∧ F b ∧ ¬ Fm b ∧ (∀ k, F k → k < w.heap.size) ∧ c.ok ∧ d.ok
theorem PBus.but {F G : Nat → Prop} {w w' : World} {b : Nat} {g : Int → Int} {pg : Int → Bool} {c d : Sg} (h : PBus w b F g pg c d) (hb : But G w w') (hn : ∀ k, F k → ¬ G k) : PBus w' b F g pg c d := by
  obtain ⟨p, Fm, h1, h2, h3, h4, h5, h6, h7⟩ := h
  exact ⟨p, Fm, h1.but hb (fun k hk => hn k (h3 k hk)), h2.but hb (hn b h4), h3, h4, h5, fun k hk => Nat.lt_of_lt_of_le (h6 k hk) hb.size, h7⟩
theorem PBus.lt {F : Nat → Prop} {w : World} {b : Nat} {g : Int → Int} {pg : Int → Bool} {c d : Sg} (h : PBus w b F g pg c d) (k : Nat) (hk : F k) : k < w.heap.size := by
  obtain ⟨p, Fm, h1, h2, h3, h4, h5, h6, h7⟩ := h
  exact h6 k hk
theorem PBus.self {F : Nat → Prop} {w : World} {b : Nat} {g : Int → Int} {pg : Int → Bool} {c d : Sg} (h : PBus w b F g pg c d) : F b := by
  obtain ⟨p, Fm, h1, h2, h3, h4, h5, h6, h7⟩ := h
  exact h4
theorem PBus.byte {F : Nat → Prop} {w : World} {b : Nat} {g : Int → Int} {pg : Int → Bool} {c d : Sg} (h : PBus w b F g pg c d) (a : Int) : 0 ≤ g a ∧ g a < 256 := by
  obtain ⟨p, Fm, h1, h2, h3, h4, h5, h6, h7⟩ := h
  exact h1.byte a
set_option maxRecDepth 100000
theorem bnew_any (p : Nat) (F : Nat → Prop) (g : Int → Int) (pg : Int → Bool) (c d : Sg) (hc : c.ok) (hd : d.ok) (w : World) (hm : PMem w p F g pg) :
  Calls Try.prog 15 #[.pointer (some ⟨p, 0, none⟩), .agg #[.int .u32 c.b, .int .u32 c.z, .bool c.r, .bool c.q, .bool c.x], .agg #[.int .u32 d.b, .int .u32 d.z, .bool d.r, .bool d.q, .bool d.x]] w fun e w' => ∃ (b : Nat) (F' : Nat → Prop), e = .returned (.pointer (some ⟨b, 0, none⟩)) ∧ (∀ k, F' k → F k ∨ w.heap.size ≤ k) ∧ PBus w' b F' g pg c d ∧ Below w.heap.size w w' := by
  have HM := Lib.hid hm
  clear hm
  go_enter Try.func15, Try.ntmps15
  go_wp2
  go_ret
  have hB := below_last (below_last (below_last (Below.refl _ w) (.cells #[.int .u32 c.b, .int .u32 c.z, .bool c.r, .bool c.q, .bool c.x] 56)) (.cells #[.int .u32 d.b, .int .u32 d.z, .bool d.r, .bool d.q, .bool d.x] 56)) (.cells #[.pointer (some ⟨p, 0, none⟩), .int .u32 c.b, .int .u32 c.z, .bool c.r, .bool c.q, .bool c.x, .int .u32 d.b, .int .u32 d.z, .bool d.r, .bool d.q, .bool d.x] 73)
  refine ⟨w.heap.size + 2, fun k => F k ∨ k = w.heap.size + 2, by first | rfl | (simp; done), fun k hk => hk.elim .inl (fun h => .inr (by omega)), ⟨p, F, HM.out.but (G := fun _ => False) (But.of_below hB) (fun _ _ h => h), ⟨?_, ?_, ?_, ?_, ?_, ?_, ?_, ?_, ?_, ?_, ?_, ?_⟩, fun k hk => .inl hk, .inr rfl, fun h => by have := HM.out.lt _ h; omega, fun k hk => hk.elim (fun h => by have := HM.out.lt _ h; simp; omega) (fun h => by subst h; simp), hc, hd⟩, hB⟩
  all_goals simp [go_sem]
set_option maxRecDepth 512
theorem ld_ok {d : Sg} {off size : Int} (h : ldE d off size = 0) : atV d.b d.z d.r d.q d.x off (widN size) 0 = d.b + off ∧ d.b + off < 4294967296 := by
  unfold ldE atE at h
  unfold atV
  cases hm : mayB d.r d.q d.x 0
  · rw [hm] at h; simp at h
  · cases hf : fitB d.b d.z off (widN size)
    · rw [hm, hf] at h; simp at h
    · exact ⟨rfl, (fit_lt _ _ _ _ hf).2.1⟩
theorem st_ok {d : Sg} {off size : Int} (h : stE d off size = 0) : atV d.b d.z d.r d.q d.x off (widN size) 1 = d.b + off ∧ d.b + off < 4294967296 := by
  unfold stE atE at h
  unfold atV
  cases hm : mayB d.r d.q d.x 1
  · rw [hm] at h; simp at h
  · cases hf : fitB d.b d.z off (widN size)
    · rw [hm, hf] at h; simp at h
    · exact ⟨rfl, (fit_lt _ _ _ _ hf).2.1⟩
theorem readN_wid (size : Int) : readN (widN size) = widN size := by
  have h0 := widN_lo size
  have h1 := widN_hi size
  unfold readN
  rw [if_neg (by omega), if_neg (by omega)]
  omega
set_option maxRecDepth 100000
set_option maxHeartbeats 4000000
theorem bload_any (b : Nat) (F : Nat → Prop) (g : Int → Int) (pg : Int → Bool) (c d : Sg) (off size : Int) (o0 : 0 ≤ off) (o1 : off < 4294967296) (w : World) (hb : PBus w b F g pg c d) :
  Calls Try.prog 18 #[.pointer (some ⟨b, 0, none⟩), .int .u32 off, .int .i64 size] w fun e w' => e = .returned (.tuple #[.int .u64 (ldV g d off size), .int .i64 (ldE d off size)]) ∧ Below w.heap.size w w' := by
  obtain ⟨p, Fm, h1, h2, h3, h4, h5, h6, h7, ⟨db0, db1⟩, dz0, dz1⟩ := hb
  have m0 := h2.m
  have c1 := h2.d1
  have c2 := h2.d2
  have c3 := h2.d3
  have c4 := h2.d4
  have c5 := h2.d5
  have hby := h1.byte
  by_cases he : ldE d off size = 0
  · obtain ⟨hv, hlt⟩ := ld_ok he
    have HV := Lib.hid (show ldV g d off size = sumN (fun i => g (place (d.b + off) i)) (widN size) by unfold ldV; rw [if_pos he, leV_sum])
    have HE := Lib.hid he
    have H1 := Lib.hid h1
    have H2 := Lib.hid h2
    have HY := Lib.hid hby
    have HSV := Lib.hid hv
    clear hv he h1 h2 h3 h4 h5 h6 h7 hby
    go_enter Try.func18, Try.ntmps18
    go_wp2_with fail
    refine (counted_any _ _).mono ?_
    rintro e w1 ⟨rfl, rfl⟩
    go_wp2_with fail
    refine (sat_any d.b d.z d.r d.q d.x off _ 0 db0 db1 dz0 dz1 o0 o1 _).mono ?_
    rintro e w1 ⟨rfl, hb1⟩
    have m1 := hb1.cell (p := ⟨b, 0, none⟩) H2.out.lt
    rw [m0] at m1
    rw [HSV.out, show atE d.b d.z d.r d.q d.x off (widN size) 0 = 0 from HE.out]
    go_wp2_with fail
    refine (mread_any p Fm g pg (d.b + off) _ (by omega) hlt _ (H1.out.but (G := fun _ => False) (But.of_below hb1) (fun _ _ h => h))).mono ?_
    rintro e w2 ⟨v, rfl, hs, hb2⟩
    rw [readN_wid] at hs
    go_wp2_with fail
    refine (number_any v _ _ (widN_hi size) (fun i => HY.out _) _ hs).mono ?_
    rintro e w3 ⟨rfl, rfl⟩
    go_wp2_with fail
    go_ret2
    exact ⟨by rw [HV.out, HE.out]; rfl, hb1.trans (hb2.mono hb1.size)⟩
  · have HV := Lib.hid (show ldV g d off size = 0 by unfold ldV; rw [if_neg he])
    have hne : (ldE d off size == 0) = false := by simpa using he
    have HD := Lib.hid (show atE d.b d.z d.r d.q d.x off (widN size) 0 = ldE d off size from rfl)
    have H2 := Lib.hid h2
    clear he h1 h2 h3 h4 h5 h6 h7 hby
    go_enter Try.func18, Try.ntmps18
    go_wp2_with fail
    refine (counted_any _ _).mono ?_
    rintro e w1 ⟨rfl, rfl⟩
    go_wp2_with fail
    refine (sat_any d.b d.z d.r d.q d.x off _ 0 db0 db1 dz0 dz1 o0 o1 _).mono ?_
    rintro e w1 ⟨rfl, hb1⟩
    rw [HD.out]
    go_wp2_with fail
    go_ret2
    exact ⟨by rw [HV.out]; rfl, hb1⟩
set_option maxRecDepth 512
theorem slice_row (k n : Nat) (hn : n ≤ 8) (w : World) :
    (Instr.sliceAt 77 (.pointer (some ⟨k, 0, none⟩)) none (some (.int .i64 (n : Int))) none).run Try.prog w = .ok (.slice (some ⟨k, 0, none⟩) n 8) w := by
  have hA : Try.prog.arrayLen 77 = 8 := by kernel_rfl
  have h := run_sliceAt_array_h (P := Try.prog) w 77 ⟨k, 0, none⟩ (by rw [hA]; exact Try.underlying77) .i64 (n : Int) (by omega) (by rw [hA]; omega)
  have hz : (sizeOf (Try.prog.elem 77)).run Try.prog w = .ok 1 w := by kernel_rfl
  rw [h, hA]
  simp [Result.andThen, slicedAt, hz, Addr.add]
set_option maxRecDepth 100000
theorem bstore_any (b : Nat) (F : Nat → Prop) (g : Int → Int) (pg : Int → Bool) (c d : Sg) (off size v : Int) (o0 : 0 ≤ off) (o1 : off < 4294967296) (v0 : 0 ≤ v) (v1 : v < 18446744073709551616) (w : World) (hb : PBus w b F g pg c d) :
  Calls Try.prog 16 #[.pointer (some ⟨b, 0, none⟩), .int .u32 off, .int .i64 size, .int .u64 v] w fun e w' => ∃ F', e = .returned (.int .i64 (stE d off size)) ∧ (∀ k, F' k → F k ∨ w.heap.size ≤ k) ∧ PBus w' b F' (stG g d off size v) (stP pg d off size) c d ∧ But F w w' := by
  have H0 := Lib.hid hb
  obtain ⟨p, Fm, h1, h2, h3, h4, h5, h6, hc, ⟨db0, db1⟩, dz0, dz1⟩ := hb
  have m0 := h2.m
  have c1 := h2.d1
  have c2 := h2.d2
  have c3 := h2.d3
  have c4 := h2.d4
  have c5 := h2.d5
  have H1 := Lib.hid h1
  have H2 := Lib.hid h2
  have H3 := Lib.hid h3
  have H4 := Lib.hid h4
  have H5 := Lib.hid h5
  have H6 := Lib.hid h6
  have HC := Lib.hid hc
  clear h1 h2 h3 h4 h5 h6 hc
  by_cases he : stE d off size = 0
  · obtain ⟨hv, hlt⟩ := st_ok he
    have HG := Lib.hid (show stG g d off size v = writeG g (d.b + off) (byteOf v) (widN size) by unfold stG; rw [if_pos he])
    have HP := Lib.hid (show stP pg d off size = writeP pg (d.b + off) (widN size) by unfold stP; rw [if_pos he])
    have HE := Lib.hid he
    have HV := Lib.hid hv
    have hw0 := widN_lo size
    have hw8 := widN_hi size
    clear hv he
    go_enter Try.func16, Try.ntmps16
    go_wp2_with fail
    refine (counted_any _ _).mono ?_
    rintro e w1 ⟨rfl, rfl⟩
    go_wp2_with fail
    refine (sat_any d.b d.z d.r d.q d.x off _ 1 db0 db1 dz0 dz1 o0 o1 _).mono ?_
    rintro e w1 ⟨rfl, hb1⟩
    rw [HV.out, show atE d.b d.z d.r d.q d.x off (widN size) 1 = 0 from HE.out]
    go_wp2_with fail
    refine (spread_any v v0 v1 _).mono ?_
    rintro e w2 ⟨rfl, hb2⟩
    rw [spreadC_8]
    have hb3 := hb1.trans (hb2.mono hb1.size)
    have B3 := Lib.hid hb3
    clear hb1 hb2 hb3
    go_upto_region 6 with (fail)
    rw [← spreadC_8]
    have hal : Below w2.heap.size w2 (w2.alloc (.cells (spreadC v 8) 77)) := below_last (Below.refl _ _) _
    have hBW : Below w.heap.size w (w2.alloc (.cells (spreadC v 8) 77)) := B3.out.trans (hal.mono B3.out.size)
    have hcells : ∀ i, i < 8 → (w2.alloc (.cells (spreadC v 8) 77)).cell? ⟨w2.heap.size, i, none⟩ = some (.int .u8 (byteOf v i)) := fun i hi => by
      have h8 : i = 0 ∨ i = 1 ∨ i = 2 ∨ i = 3 ∨ i = 4 ∨ i = 5 ∨ i = 6 ∨ i = 7 := by omega
      rcases h8 with rfl | rfl | rfl | rfl | rfl | rfl | rfl | rfl <;> simp [go_sem, spreadC_8]
    have hz : w2.heap.size < (w2.alloc (.cells (spreadC v 8) 77)).heap.size := by simp
    have hsl := fun w => slice_row w2.heap.size (widN size) hw8 w
    have hw2 := B3.out.size
    have m1 := hBW.cell (p := ⟨b, 0, none⟩) H2.out.lt
    rw [m0] at m1
    generalize w2.alloc (.cells (spreadC v 8) 77) = W at *
    have HW := Lib.hid hBW
    have HX := Lib.hid hcells
    clear hal hBW hcells m0 c1 c2 c3 c4 c5
    go_still_tail 7, (by kernel_rfl)
    change wpList _ _ _ _ _ W.drew
    have HW2 := Lib.hid (show Below w.heap.size w W.drew from HW.out.drew)
    have hs : Slc .u8 W.drew (.slice (some ⟨w2.heap.size, 0, none⟩) (widN size) 8) (widN size) (byteOf v) := .inr ⟨_, _, rfl, hw8, fun i hi => by rw [addr0, Nat.zero_add]; exact HX.out i (by omega)⟩
    have HS := Lib.hid hs
    generalize W.drew = V at *
    clear hs
    go_wp2_with fail
    refine (mwrite_any p Fm g pg (d.b + off) _ (widN size) (byteOf v) (by omega) hlt (by omega) (byteOf_ok v) _ (H1.out.but (G := fun _ => False) (But.of_below HW2.out) (fun _ _ h => h)) HS.out (fun _ k hk => ?_)).mono ?_
    · have hk : w2.heap.size = k := by injection hk
      intro hf
      have := H6.out k (H3.out k hf)
      omega
    · rintro e w3 ⟨F', rfl, hF', hm', hb'⟩
      have hbF : But F w w3 := (But.of_below (F := F) HW2.out).trans hb' (fun i _ hi => H3.out i hi)
      have hA := (H2.out.below HW2.out).but hb' H5.out
      have hsz := HW2.out.size
      have HF := Lib.hid hF'
      have HM := Lib.hid hm'
      clear hF' hm' hb'
      go_wp2_with fail
      go_ret
      refine ⟨fun k => F' k ∨ F k, by rw [HE.out]; rfl, fun k hk => hk.elim (fun h => (HF.out k h).elim (fun h => .inl (H3.out k h)) (fun h => .inr (by omega))) .inl, ⟨p, F', ?_, hA, fun k h => .inl h, .inr H4.out, fun h => (HF.out b h).elim H5.out (fun h => by have := H2.out.lt; omega), fun k hk => hk.elim (fun h => HM.out.lt k h) (fun h => Nat.lt_of_lt_of_le (H6.out k h) hbF.size), HC.out, ⟨db0, db1⟩, dz0, dz1⟩, hbF⟩
      rw [HG.out, HP.out]
      exact HM.out
  · have HV := Lib.hid (show stG g d off size v = g by unfold stG; rw [if_neg he])
    have HP := Lib.hid (show stP pg d off size = pg by unfold stP; rw [if_neg he])
    have hne : (stE d off size == 0) = false := by simpa using he
    have HD := Lib.hid (show atE d.b d.z d.r d.q d.x off (widN size) 1 = stE d off size from rfl)
    clear he
    go_enter Try.func16, Try.ntmps16
    go_wp2_with fail
    refine (counted_any _ _).mono ?_
    rintro e w1 ⟨rfl, rfl⟩
    go_wp2_with fail
    refine (sat_any d.b d.z d.r d.q d.x off _ 1 db0 db1 dz0 dz1 o0 o1 _).mono ?_
    rintro e w1 ⟨rfl, hb1⟩
    rw [HD.out]
    go_wp2_with fail
    go_ret
    exact ⟨F, rfl, fun k h => .inl h, by rw [HV.out, HP.out]; exact H0.out.but (G := fun _ => False) (But.of_below hb1) (fun _ _ h => h), But.of_below hb1⟩
set_option maxRecDepth 100000
set_option maxRecDepth 512
structure MIn (w0 w : World) (p : Nat) (F : Nat → Prop) (g : Int → Int) (pg : Int → Bool) : Prop where
  own : ∀ k, F k → w0.heap.size ≤ k
  mem : PMem w p F g pg
  low : Below w0.heap.size w0 w
variable {w0 w w' : World} {p : Nat} {F : Nat → Prop} {g : Int → Int} {pg : Int → Bool}
theorem MIn.but {G : Nat → Prop} (h : MIn w0 w p F g pg) (hb : But G w w') (hG : ∀ k, G k → w0.heap.size ≤ k ∧ ¬ F k) : MIn w0 w' p F g pg :=
  ⟨h.own, h.mem.but hb (fun k hk hg => (hG k hg).2 hk), hb.below h.low (fun k hk => (hG k hk).1) h.low.size⟩
theorem MIn.next (h : MIn w0 w p F g pg) (hb : Below w.heap.size w w') : MIn w0 w' p F g pg := h.but (G := fun _ => False) (But.of_below hb) (fun _ h => h.elim)
theorem MIn.alloc (h : MIn w0 w p F g pg) (o : Obj) : MIn w0 (w.alloc o) p F g pg := h.next (below_last (Below.refl _ _) _)
theorem MIn.drew (h : MIn w0 w p F g pg) : MIn w0 w.drew p F g pg := h.next ((Below.refl _ _).drew)
theorem min_new (w : World) (hlow : Below w0.heap.size w0 w) : Calls Try.prog 12 #[] w fun e w' => ∃ (p : Nat) (F : Nat → Prop), e = .returned (.pointer (some ⟨p, 0, none⟩)) ∧ MIn w0 w' p F (fun _ => 0) (fun _ => false) ∧ (∀ k, F k → w.heap.size ≤ k) ∧ Below w.heap.size w w' :=
  (mnew_any w).mono fun _ _ ⟨p, F, he, hF, hm, hb⟩ => ⟨p, F, he, ⟨fun k hk => Nat.le_trans hlow.size (hF k hk), hm, hlow.trans (hb.mono hlow.size)⟩, hF, hb⟩
theorem min_write (h : MIn w0 w p F g pg) (a : Int) (v : Value) (L : Nat) (bs : Nat → Int) (a0 : 0 ≤ a) (a1 : a < 4294967296) (hL : L < 2147483648) (hb : ∀ i, 0 ≤ bs i ∧ bs i < 256) (hs : Slc .u8 w v L bs) (hv : 0 < L → ∀ k, v.ownBlock = some k → ¬ F k) :
    Calls Try.prog 13 #[.pointer (some ⟨p, 0, none⟩), .int .u32 a, v] w fun e w' => ∃ F', e = .returned (.tuple #[]) ∧ MIn w0 w' p F' (writeG g a bs L) (writeP pg a L) ∧ (∀ k, F' k → F k ∨ w.heap.size ≤ k) ∧ But F w w' :=
  (mwrite_any p F g pg a v L bs a0 a1 hL hb w h.mem hs hv).mono fun _ _ ⟨F', he, hF, hm, hb⟩ => ⟨F', he, ⟨fun k hk => (hF k hk).elim (h.own k) (fun q => Nat.le_trans h.low.size q), hm, hb.below h.low h.own h.low.size⟩, hF, hb⟩
set_option maxRecDepth 100000
structure BIn (w0 w : World) (b : Nat) (F : Nat → Prop) (g : Int → Int) (pg : Int → Bool) (c d : Sg) : Prop where
  own : ∀ k, F k → w0.heap.size ≤ k
  bus : PBus w b F g pg c d
  low : Below w0.heap.size w0 w
variable {w0 w w' : World} {b p : Nat} {F : Nat → Prop} {g : Int → Int} {pg : Int → Bool} {c d : Sg}
theorem BIn.next (h : BIn w0 w b F g pg c d) (hb : Below w.heap.size w w') : BIn w0 w' b F g pg c d :=
  ⟨h.own, h.bus.but (G := fun _ => False) (But.of_below hb) (fun _ _ h => h), h.low.trans (hb.mono h.low.size)⟩
theorem BIn.wrote {F' : Nat → Prop} {g' : Int → Int} {pg' : Int → Bool} {c' d' : Sg} (h : BIn w0 w b F g pg c d) (hF : ∀ k, F' k → F k ∨ w.heap.size ≤ k) (hp : PBus w' b F' g' pg' c' d') (hb : But F w w') : BIn w0 w' b F' g' pg' c' d' :=
  ⟨fun k hk => (hF k hk).elim (h.own k) (fun q => Nat.le_trans h.low.size q), hp, hb.below h.low h.own h.low.size⟩
end Go.Proofs.Ytbbegbaaefgikaa
