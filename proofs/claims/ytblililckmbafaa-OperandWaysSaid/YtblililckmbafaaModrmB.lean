/- The landed package modrm: numbers, second bytes, lengths. -/
import Derived.Test.YtblililckmbafaaModrmA
import Derived.BigQuiet
import Derived.Deep.QuietTactic
namespace Go.Proofs.Ytblililckmbafaa
open Go.ChangeShapes Go.WideShapes Go.ChangeAt Go.RowKit

theorem drew_alloc (w : World) (o : Obj) : (w.alloc o).drew = w.drew.alloc o := rfl
theorem mscaled_any (c : Int) (c0 : 0 ≤ c) (c1 : c < 256) (w : World) : Calls Try.prog 14 #[.int .u8 c] w fun e w' => e = .returned (.agg #[.int .i64 3, .int .i64 0, .int .i64 (c % 8), .int .i64 (sibI c), .int .i64 (sibS c), .int .u32 0]) ∧ ∃ nq, w' = (((w.drewN nq).alloc (.cells #[.int .i64 3, .int .i64 0, .int .i64 (c % 8), .int .i64 (sibI c), .int .i64 (sibS c), .int .u32 0] 28)).alloc (.cells #[.int .i64 3, .int .i64 0, .int .i64 (c % 8), .int .i64 (-1), .int .i64 1, .int .u32 0] 28)).alloc (.cells #[.int .i64 3, .int .i64 0, .int .i64 (c % 8), .int .i64 (sibI c), .int .i64 (sibS c), .int .u32 0] 28) := by
  obtain ⟨q, hq⟩ : ∃ q, c / 64 = q := ⟨_, rfl⟩
  obtain ⟨i, hi⟩ : ∃ i, c / 8 % 8 = i := ⟨_, rfl⟩
  obtain ⟨b, hb⟩ : ∃ b, c % 8 = b := ⟨_, rfl⟩
  have hq4 : q = 0 ∨ q = 1 ∨ q = 2 ∨ q = 3 := by omega
  have HF := mfields_any c c0 c1
  have hI : sibI c = if i = 4 then -1 else i := by unfold sibI; rw [hi]
  have hS : sibS c = if i = 4 then 1 else scale9 q := by unfold sibS; rw [hi, hq]
  rw [hI, hS, hb]
  rw [hq, hi, hb] at HF
  have HF := Lib.hid HF
  clear hI hS hq hi hb
  by_cases h4 : i = 4
  · subst h4
    clear hq4
    go_enter Try.func14, Try.ntmps14
    go_wp2_with (first | (go_at_call 11; refine (HF.out _).mono ?_; rintro e w' ⟨rfl, rfl⟩) | (go_at_call 12; refine (mmemory_any _ _).mono ?_; rintro e w' ⟨rfl, rfl⟩))
    go_returns
    exact ⟨rfl, 0, rfl⟩
  · rw [if_neg h4, if_neg h4]
    have e4 : (i != 4) = true := by simpa using h4
    clear h4
    rcases hq4 with rfl | rfl | rfl | rfl
    all_goals
      go_enter Try.func14, Try.ntmps14
      go_wp2_with (first | (go_at_call 11; refine (HF.out _).mono ?_; rintro e w' ⟨rfl, rfl⟩) | (go_at_call 12; refine (mmemory_any _ _).mono ?_; rintro e w' ⟨rfl, rfl⟩))
      go_region
      all_goals
        go_wp2
        go_returns
        exact ⟨rfl, 1, rfl⟩
def lenF (L : Nat) (bs : Nat → Int) : Nat :=
  if L = 0 then 1 else if bs 0 / 64 = 3 then 1 else if bs 0 % 8 ≠ 4 then 1 + more9 (bs 0 / 64) (bs 0 % 8) else if L = 1 then 2 else 2 + more9 (bs 0 / 64) (bs 1 % 8)
theorem more9_le (md base : Int) : more9 md base ≤ 4 := by unfold more9; split <;> (try split) <;> omega
theorem lenF_le (L : Nat) (bs : Nat → Int) : 1 ≤ lenF L bs ∧ lenF L bs ≤ 6 := by
  have h1 := more9_le (bs 0 / 64) (bs 0 % 8)
  have h2 := more9_le (bs 0 / 64) (bs 1 % 8)
  unfold lenF
  split <;> (try split) <;> (try split) <;> (try split) <;> omega
/-- too few bytes -/
theorem lenF_none {L : Nat} {bs : Nat → Int} (h : L < lenF L bs) : rmF L bs = none := by
  unfold lenF at h
  unfold rmF
  by_cases h0 : L = 0
  · rw [if_pos h0]
  · rw [if_neg h0] at h ⊢
    by_cases h3 : bs 0 / 64 = 3
    · rw [if_pos h3] at h; omega
    · rw [if_neg h3] at h ⊢
      by_cases h4 : bs 0 % 8 = 4
      · rw [if_neg (by omega)] at h
        rw [if_pos h4]
        by_cases h1 : L = 1
        · rw [if_pos (by omega)]
        · rw [if_neg h1] at h
          rw [if_neg (by omega), if_pos h]
      · rw [if_pos h4] at h
        rw [if_neg h4, if_pos h]
theorem mlength_any (v : Value) (L : Nat) (bs : Nat → Int) (hb : ∀ i, 0 ≤ bs i ∧ bs i < 256) (w : World) (hs : Slc .u8 w v L bs) (hL : L ≤ maxLen) :
    Calls Try.prog 10 #[v] w fun e w' => e = .returned (.int .i64 (lenF L bs)) ∧ w = w' := by
  unfold maxLen at hL
  by_cases hL0 : L = 0
  · have hV := Lib.hid (show lenF L bs = 1 by unfold lenF; rw [if_pos hL0])
    have hv : ∃ a cap, v = .slice a 0 cap := by subst hL0; exact hs.len
    obtain ⟨a, cap, rfl⟩ := hv
    clear hs hL0 hL
    go_enter Try.func10, Try.ntmps10
    go_wp2
    go_ret
    exact ⟨by rw [hV.out]; rfl, rfl⟩
  · rcases hs with ⟨_, h⟩ | ⟨ad, cap, rfl, hl, hc⟩
    · omega
    have hc0 : w.cell? ad = some (.int .u8 (bs 0)) := by simpa [Addr.add] using hc 0 (by omega)
    have i0 : (0 : Int) < (L : Int) := by omega
    have i0' : 0 < L := by omega
    have e0 : ((L : Int) == 0) = false := by simpa using hL0
    have HF := mfields_any (bs 0) (hb 0).1 (hb 0).2
    have hmd : 0 ≤ bs 0 / 64 ∧ bs 0 / 64 ≤ 3 := by have := hb 0; omega
    by_cases h3 : bs 0 / 64 = 3
    · have hV := Lib.hid (show lenF L bs = 1 by unfold lenF; rw [if_neg hL0, if_pos h3])
      rw [h3] at HF
      have HF := Lib.hid HF
      clear hc hb hL0 h3 hmd
      go_enter Try.func10, Try.ntmps10
      go_wp2_with (go_at_call 11; refine (HF.out _).mono ?_; rintro e w' ⟨rfl, rfl⟩)
      go_ret
      exact ⟨by rw [hV.out]; rfl, rfl⟩
    · by_cases h4 : bs 0 % 8 = 4
      · by_cases h1 : L = 1
        · have hV := Lib.hid (show lenF L bs = 2 by unfold lenF; rw [if_neg hL0, if_neg h3, if_neg (by omega), if_pos h1])
          rw [h4] at HF
          have HF := Lib.hid HF
          have e3 : (bs 0 / 64 == 3) = false := by simpa using h3
          subst h1
          clear hc hb hL0 h3 hmd h4 e0
          go_enter Try.func10, Try.ntmps10
          go_wp2_with (go_at_call 11; refine (HF.out _).mono ?_; rintro e w' ⟨rfl, rfl⟩)
          go_ret
          exact ⟨by rw [hV.out]; rfl, rfl⟩
        · have hV := Lib.hid (show lenF L bs = 2 + more9 (bs 0 / 64) (bs 1 % 8) by unfold lenF; rw [if_neg hL0, if_neg h3, if_neg (by omega), if_neg h1])
          have HF1 := mfields_any (bs 1) (hb 1).1 (hb 1).2
          have HA := madded_any (bs 0 / 64) (bs 1 % 8) hmd.1 (by omega)
          have hm := more9_le (bs 0 / 64) (bs 1 % 8)
          rw [h4] at HF
          have HF := Lib.hid HF
          have HF1 := Lib.hid HF1
          have HA := Lib.hid HA
          have e3 : (bs 0 / 64 == 3) = false := by simpa using h3
          have e1 : ((L : Int) == 1) = false := by simp; omega
          have hc1 : w.cell? ⟨ad.block, ad.off + 1, none⟩ = some (.int .u8 (bs 1)) := by simpa [Addr.add] using hc 1 (by omega)
          have i1 : (1 : Int) < (L : Int) := by omega
          have i1' : 1 < L := by omega
          clear hc hb hL0 h3 hmd h4 h1
          generalize bs 0 / 8 % 8 = r0 at *
          generalize bs 1 % 8 = b1 at *
          generalize bs 1 / 8 % 8 = r1 at *
          generalize bs 1 / 64 = q1 at *
          generalize bs 0 / 64 = md at *
          generalize more9 md b1 = M at *
          go_enter Try.func10, Try.ntmps10
          go_wp2_with (first | (go_at_call 11; first | ((with_reducible refine (HF.out _).mono ?_); rintro e w' ⟨rfl, rfl⟩) | ((with_reducible refine (HF1.out _).mono ?_); rintro e w' ⟨rfl, rfl⟩)) | (go_at_call 23; refine (HA.out _).mono ?_; rintro e w' ⟨rfl, rfl⟩))
          go_ret
          exact ⟨by rw [hV.out]; go_num, rfl⟩
      · have hV := Lib.hid (show lenF L bs = 1 + more9 (bs 0 / 64) (bs 0 % 8) by unfold lenF; rw [if_neg hL0, if_neg h3, if_pos h4])
        have HA := madded_any (bs 0 / 64) (bs 0 % 8) hmd.1 (by omega)
        have hm := more9_le (bs 0 / 64) (bs 0 % 8)
        have HF := Lib.hid HF
        have HA := Lib.hid HA
        have e3 : (bs 0 / 64 == 3) = false := by simpa using h3
        have e4 : (bs 0 % 8 != 4) = true := by simpa using h4
        clear hc hb hL0 h3 hmd h4
        generalize bs 0 / 8 % 8 = r0 at *
        generalize bs 0 % 8 = b1 at *
        generalize bs 0 / 64 = md at *
        generalize more9 md b1 = M at *
        go_enter Try.func10, Try.ntmps10
        go_wp2_with (first | (go_at_call 11; (with_reducible refine (HF.out _).mono ?_); rintro e w' ⟨rfl, rfl⟩) | (go_at_call 23; refine (HA.out _).mono ?_; rintro e w' ⟨rfl, rfl⟩))
        go_ret
        exact ⟨by rw [hV.out]; go_num, rfl⟩
theorem mnumber_any (v : Value) (L : Nat) (bs : Nat → Int) (hb : ∀ i, 0 ≤ bs i ∧ bs i < 256) (w : World) (hs : Slc .u8 w v L bs) (hL : L ≤ 8) :
    Calls Try.prog 15 #[v] w fun e w' => e = .returned (.int .u32 (disp9 L bs 0)) ∧ ∃ nq, w' = w.drewN nq := by
  by_cases h1 : L = 1
  · subst h1
    rcases hs with ⟨_, h⟩ | ⟨ad, cap, rfl, hl, hc⟩
    · omega
    have hc0 : w.cell? ad = some (.int .u8 (bs 0)) := by simpa [Addr.add] using hc 0 (by omega)
    have hV := Lib.hid (show IntKind.i8.wrap (bs 0) % 4294967296 = disp9 1 bs 0 by
      have := hb 0
      show _ = sx9 (bs 0)
      simp only [IntKind.wrap, IntKind.bits, IntKind.signed]
      simp
      unfold sx9
      split <;> omega)
    clear hc hb
    go_enter Try.func15, Try.ntmps15
    go_wp2
    go_ret
    exact ⟨by rw [← hV.out]; rfl, 0, rfl⟩
  · by_cases h4 : L = 4
    · subst h4
      rcases hs with ⟨_, h⟩ | ⟨ad, cap, rfl, hl, hc⟩
      · omega
      have c0 : w.cell? ad = some (.int .u8 (bs 0)) := by simpa [Addr.add] using hc 0 (by omega)
      have c1 : w.cell? ⟨ad.block, ad.off + 1, none⟩ = some (.int .u8 (bs 1)) := by simpa [Addr.add] using hc 1 (by omega)
      have c2 : w.cell? ⟨ad.block, ad.off + 2, none⟩ = some (.int .u8 (bs 2)) := by simpa [Addr.add] using hc 2 (by omega)
      have c3 : w.cell? ⟨ad.block, ad.off + 3, none⟩ = some (.int .u8 (bs 3)) := by simpa [Addr.add] using hc 3 (by omega)
      have b0 := hb 0
      have b1 := hb 1
      have b2 := hb 2
      have b3 := hb 3
      have hV := Lib.hid (show bs 0 + bs 1 * 256 + bs 2 * 65536 + bs 3 * 16777216 = disp9 4 bs 0 by rfl)
      clear hc hb
      generalize bs 0 = x0 at *
      generalize bs 1 = x1 at *
      generalize bs 2 = x2 at *
      generalize bs 3 = x3 at *
      have w0 : IntKind.u32.wrap x0 = x0 := by rw [IntKind.wrap_u32]; omega
      have w1 : IntKind.u32.wrap x1 = x1 := by rw [IntKind.wrap_u32]; omega
      have w2 : IntKind.u32.wrap x2 = x2 := by rw [IntKind.wrap_u32]; omega
      have w3 : IntKind.u32.wrap x3 = x3 := by rw [IntKind.wrap_u32]; omega
      have s1 : IntKind.u32.wrap (x1 * 256) = x1 * 256 := by rw [IntKind.wrap_u32]; omega
      have s2 : IntKind.u32.wrap (x2 * 65536) = x2 * 65536 := by rw [IntKind.wrap_u32]; omega
      have s3 : IntKind.u32.wrap (x3 * 16777216) = x3 * 16777216 := by rw [IntKind.wrap_u32]; omega
      have o1 : bits .or .u32 x0 (x1 * 256) = x0 + x1 * 256 := or_add 8 x0 x1 b0.1 b0.2 b1.1 (by show x0 + x1 * 256 < _; omega)
      have o2 : bits .or .u32 (x0 + x1 * 256) (x2 * 65536) = x0 + x1 * 256 + x2 * 65536 := or_add 16 _ x2 (by omega) (by show _ < (65536 : Int); omega) b2.1 (by show _ + x2 * 65536 < _; omega)
      have o3 : bits .or .u32 (x0 + x1 * 256 + x2 * 65536) (x3 * 16777216) = x0 + x1 * 256 + x2 * 65536 + x3 * 16777216 := or_add 24 _ x3 (by omega) (by show _ < (16777216 : Int); omega) b3.1 (by show _ + x3 * 16777216 < _; omega)
      clear b0 b1 b2 b3
      go_enter Try.func15, Try.ntmps15
      go_wp2_with fail
      go_quiet (fail)
      go_wp2_with fail
      go_ret
      exact ⟨by rw [← hV.out]; rfl, _, rfl⟩
    · have hV := Lib.hid (show disp9 L bs 0 = 0 by unfold disp9; rw [if_neg h1, if_neg h4])
      obtain ⟨a, cap, rfl⟩ := hs.len
      have e1 : ((L : Int) == 1) = false := by simp; omega
      have e4 : ((L : Int) == 4) = false := by simp; omega
      clear hs h1 h4
      go_enter Try.func15, Try.ntmps15
      go_wp2
      go_ret
      exact ⟨by rw [hV.out]; rfl, 0, rfl⟩
theorem sx9_wrap (d : Int) : IntKind.i8.wrap d % 4294967296 = sx9 (d % 256) := by
  simp only [IntKind.wrap, IntKind.bits, IntKind.signed]
  simp
  unfold sx9
  split <;> omega
theorem mshortest_any (o : Opd) (d0 : 0 ≤ o.disp) (d1 : o.disp < 4294967296) (w : World) : Calls Try.prog 24 #[opV o] w fun e w' => e = .returned (.int .i64 (addM o)) ∧ w' = w.alloc (.cells (opC o) 28) := by
  obtain ⟨kind, rg, base, index, scale, disp⟩ := o
  unfold opV opC
  simp only at d0 d1 ⊢
  by_cases hb : base = -1
  · subst hb
    have hV := Lib.hid (show addM ⟨kind, rg, -1, index, scale, disp⟩ = 0 by unfold addM; simp)
    go_enter Try.func24, Try.ntmps24
    go_wp2
    go_ret
    exact ⟨by rw [hV.out]; rfl, rfl⟩
  · have eb : (base == -1) = false := by simpa using hb
    by_cases hd : disp = 0
    · subst hd
      by_cases h5 : base = 5
      · subst h5
        have hV := Lib.hid (show addM ⟨kind, rg, 5, index, scale, 0⟩ = 1 by unfold addM; simp; decide)
        clear hb
        go_enter Try.func24, Try.ntmps24
        go_wp2
        go_ret
        exact ⟨by rw [hV.out]; rfl, rfl⟩
      · have hV := Lib.hid (show addM ⟨kind, rg, base, index, scale, 0⟩ = 0 by unfold addM; simp [hb, h5])
        have e5 : (base != 5) = true := by simpa using h5
        clear hb h5
        go_enter Try.func24, Try.ntmps24
        go_wp2
        go_ret
        exact ⟨by rw [hV.out]; rfl, rfl⟩
    · have ed : (disp == 0) = false := by simpa using hd
      by_cases hx : sx9 (disp % 256) = disp
      · have hV := Lib.hid (show addM ⟨kind, rg, base, index, scale, disp⟩ = 1 by unfold addM; simp [hb, hd, hx])
        have ex : (disp == IntKind.i8.wrap disp % 4294967296) = true := by rw [sx9_wrap, hx]; simp
        clear hb hd hx
        go_enter Try.func24, Try.ntmps24
        go_wp2
        go_ret
        exact ⟨by rw [hV.out]; rfl, rfl⟩
      · have hV := Lib.hid (show addM ⟨kind, rg, base, index, scale, disp⟩ = 2 by unfold addM; simp [hb, hd, hx])
        have ex : (disp == IntKind.i8.wrap disp % 4294967296) = false := by rw [sx9_wrap]; simp; omega
        clear hb hd hx
        go_enter Try.func24, Try.ntmps24
        go_wp2
        go_ret
        exact ⟨by rw [hV.out]; rfl, rfl⟩
theorem msecond_any (o : Opd) (base : Int) (hs : o.scale = 1 ∨ o.scale = 2 ∨ o.scale = 4 ∨ o.scale = 8) (i0 : -1 ≤ o.index) (i1 : o.index ≤ 7) (b0 : 0 ≤ base) (b1 : base < 8) (w : World) :
    Calls Try.prog 25 #[opV o, .int .i64 base] w fun e w' => e = .returned (.int .u8 (log9 o.scale * 64 + (if o.index = -1 then 4 else o.index) * 8 + base)) ∧ w' = w.alloc (.cells (opC o) 28) := by
  obtain ⟨kind, rg, bs, index, scale, disp⟩ := o
  unfold opV opC
  simp only at hs i0 i1 ⊢
  have hl := log9_ok scale hs
  have HP := Lib.hid (mpower_any scale hs)
  clear hs
  generalize log9 scale = lg at *
  by_cases hi : index = -1
  · subst hi
    rw [if_pos rfl]
    have HJ := Lib.hid (mjoined_any lg 4 base hl.1 (by omega) (by omega) (by omega) b0 b1)
    go_enter Try.func25, Try.ntmps25
    go_wp2_with (first | (go_at_call 27; refine (HP.out _).mono ?_; rintro e w' ⟨rfl, rfl⟩) | (go_at_call 21; refine (HJ.out _).mono ?_; rintro e w' ⟨rfl, rfl⟩))
    go_ret
    exact ⟨rfl, rfl⟩
  · rw [if_neg hi]
    have HJ := Lib.hid (mjoined_any lg index base hl.1 (by omega) (by omega) (by omega) b0 b1)
    have ei : (index == -1) = false := by simpa using hi
    clear hi
    go_enter Try.func25, Try.ntmps25
    go_wp2_with (first | (go_at_call 27; refine (HP.out _).mono ?_; rintro e w' ⟨rfl, rfl⟩) | (go_at_call 21; refine (HJ.out _).mono ?_; rintro e w' ⟨rfl, rfl⟩))
    go_ret
    exact ⟨rfl, rfl⟩
theorem mspread_any (v : Int) (v0 : 0 ≤ v) (v1 : v < 4294967296) (w : World) :
    Calls Try.prog 26 #[.int .u32 v] w fun e w' => e = .returned (.agg #[.int .u8 (v % 256), .int .u8 (v / 256 % 256), .int .u8 (v / 65536 % 256), .int .u8 (v / 16777216)]) ∧ w' = w.alloc (.cells #[.int .u8 (v % 256), .int .u8 (v / 256 % 256), .int .u8 (v / 65536 % 256), .int .u8 (v / 16777216)] 56) := by
  go_enter Try.func26, Try.ntmps26
  go_wp2
  go_returns
  exact ⟨rfl, rfl⟩
end Go.Proofs.Ytblililckmbafaa
