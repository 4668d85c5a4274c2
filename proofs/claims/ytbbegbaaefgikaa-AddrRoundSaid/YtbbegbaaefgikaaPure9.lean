/- Operands and their bytes: numbers only. -/
namespace Go.Proofs.Ytbbegbaaefgikaa
set_option maxRecDepth 100000

/-- an operand: kind, register, base, index, scale, number -/
structure Opd where
  kind : Int
  reg : Int
  base : Int
  index : Int
  scale : Int
  disp : Int
  deriving DecidableEq
/-- a signed byte, as 32 bits -/
def sx9 (c : Int) : Int := if c < 128 then c else c + 4294967040
/-- four bytes -/
def four9 (a b c d : Int) : Int := a + b * 256 + c * 65536 + d * 16777216
def scale9 (k : Int) : Int := if k = 0 then 1 else if k = 1 then 2 else if k = 2 then 4 else 8
/-- the byte behind: scale and index; none of 4 -/
def sibI (s : Int) : Int := if s / 8 % 8 = 4 then -1 else s / 8 % 8
def sibS (s : Int) : Int := if s / 8 % 8 = 4 then 1 else scale9 (s / 64)
/-- how many bytes of a number are added -/
def more9 (md base : Int) : Nat := if md = 0 then (if base = 5 then 4 else 0) else if md = 1 then 1 else 4
def disp9 (k : Nat) (bs : Nat → Int) (n : Nat) : Int := if k = 1 then sx9 (bs n) else if k = 4 then four9 (bs n) (bs (n + 1)) (bs (n + 2)) (bs (n + 3)) else 0
def base9 (md base : Int) : Int := if md = 0 ∧ base = 5 then -1 else base
/-- the operand of bytes: it, reg, how many bytes; none: too few -/
def rmF (L : Nat) (bs : Nat → Int) : Option (Opd × Int × Nat) :=
  if L = 0 then none
  else if bs 0 / 64 = 3 then some (⟨1, bs 0 % 8, -1, -1, 1, 0⟩, bs 0 / 8 % 8, 1)
  else if bs 0 % 8 = 4 then
    if L < 2 then none
    else if L < 2 + more9 (bs 0 / 64) (bs 1 % 8) then none
    else some (⟨3, 0, base9 (bs 0 / 64) (bs 1 % 8), sibI (bs 1), sibS (bs 1), disp9 (more9 (bs 0 / 64) (bs 1 % 8)) bs 2⟩, bs 0 / 8 % 8, 2 + more9 (bs 0 / 64) (bs 1 % 8))
  else if L < 1 + more9 (bs 0 / 64) (bs 0 % 8) then none
  else some (⟨3, 0, base9 (bs 0 / 64) (bs 0 % 8), -1, 1, disp9 (more9 (bs 0 / 64) (bs 0 % 8)) bs 1⟩, bs 0 / 8 % 8, 1 + more9 (bs 0 / 64) (bs 0 % 8))
/-- an operand of memory that may be -/
def memOk (o : Opd) : Prop := o.kind = 3 ∧ o.reg = 0 ∧ -1 ≤ o.base ∧ o.base ≤ 7 ∧ -1 ≤ o.index ∧ o.index ≤ 7 ∧ o.index ≠ 4 ∧ (o.scale = 1 ∨ o.scale = 2 ∨ o.scale = 4 ∨ o.scale = 8) ∧ (o.index ≠ -1 ∨ o.scale = 1)
instance (o : Opd) : Decidable (memOk o) := by unfold memOk; infer_instance
def regOk (o : Opd) : Prop := 0 ≤ o.reg ∧ o.reg ≤ 7 ∧ o = ⟨1, o.reg, -1, -1, 1, 0⟩
instance (o : Opd) : Decidable (regOk o) := by unfold regOk; infer_instance
def log9 (s : Int) : Int := if s = 1 then 0 else if s = 2 then 1 else if s = 4 then 2 else 3
def bytes4 (v : Int) : List Int := [v % 256, v / 256 % 256, v / 65536 % 256, v / 16777216 % 256]
/-- mod, and the bytes that are added -/
def addM (o : Opd) : Int := if o.base = -1 then 0 else if o.disp = 0 ∧ o.base ≠ 5 then 0 else if sx9 (o.disp % 256) = o.disp then 1 else 2
def addB (o : Opd) : List Int := if o.base = -1 then bytes4 o.disp else if o.disp = 0 ∧ o.base ≠ 5 then [] else if sx9 (o.disp % 256) = o.disp then [o.disp % 256] else bytes4 o.disp
/-- the shortest bytes of an operand -/
def putF (reg : Int) (o : Opd) : List Int :=
  if o.kind = 1 then [192 + reg * 8 + o.reg]
  else if o.index = -1 ∧ o.base ≠ 4 then (addM o * 64 + reg * 8 + (if o.base = -1 then 5 else o.base)) :: addB o
  else (addM o * 64 + reg * 8 + 4) :: ((if o.index = -1 then 32 else log9 o.scale * 64 + o.index * 8) + (if o.base = -1 then 5 else o.base)) :: addB o
theorem four_bytes (v : Int) (h0 : 0 ≤ v) (h1 : v < 4294967296) : four9 (v % 256) (v / 256 % 256) (v / 65536 % 256) (v / 16777216 % 256) = v := by unfold four9; omega
theorem scale_log (s : Int) (h : s = 1 ∨ s = 2 ∨ s = 4 ∨ s = 8) : scale9 (log9 s) = s := by rcases h with rfl | rfl | rfl | rfl <;> decide
theorem scale9_ok (k : Int) : scale9 k = 1 ∨ scale9 k = 2 ∨ scale9 k = 4 ∨ scale9 k = 8 := by unfold scale9; split <;> (try split) <;> (try split) <;> simp
theorem sx9_ok (c : Int) (h0 : 0 ≤ c) (h1 : c < 256) : 0 ≤ sx9 c ∧ sx9 c < 4294967296 ∧ sx9 (sx9 c % 256) = sx9 c := by
  unfold sx9
  by_cases h : c < 128
  · rw [if_pos h, if_pos (by omega)]; omega
  · rw [if_neg h, if_neg (by omega)]; omega
theorem add_ok (o : Opd) (d0 : 0 ≤ o.disp) (d1 : o.disp < 4294967296) : more9 (addM o) (if o.base = -1 then 5 else o.base) = (addB o).length ∧ base9 (addM o) (if o.base = -1 then 5 else o.base) = o.base ∧ (0 ≤ addM o ∧ addM o ≤ 2) ∧
    ∀ (bs : Nat → Int) (n : Nat), (∀ i, i < (addB o).length → bs (n + i) = (addB o).getD i 0) → disp9 (addB o).length bs n = o.disp := by
  have h4 : ∀ (bs : Nat → Int) (n : Nat), (∀ i, i < (bytes4 o.disp).length → bs (n + i) = (bytes4 o.disp).getD i 0) → disp9 (bytes4 o.disp).length bs n = o.disp := fun bs n h => by
    have e0 := h 0 (by simp [bytes4])
    have e1 := h 1 (by simp [bytes4])
    have e2 := h 2 (by simp [bytes4])
    have e3 := h 3 (by simp [bytes4])
    simp [bytes4] at e0 e1 e2 e3
    show disp9 4 bs n = _
    unfold disp9
    rw [if_neg (by omega), if_pos rfl, e0, e1, e2, e3]
    exact four_bytes _ d0 d1
  unfold addM addB
  by_cases hb : o.base = -1
  · simp only [if_pos hb]
    exact ⟨rfl, by rw [hb]; rfl, by omega, h4⟩
  · simp only [if_neg hb]
    by_cases hd : o.disp = 0 ∧ o.base ≠ 5
    · simp only [if_pos hd]
      refine ⟨?_, ?_, by omega, fun bs n _ => ?_⟩
      · unfold more9; rw [if_pos rfl, if_neg hd.2]; rfl
      · unfold base9; rw [if_neg (by rintro ⟨_, h⟩; exact hd.2 h)]
      · show disp9 0 bs n = _
        unfold disp9
        rw [if_neg (by omega), if_neg (by omega)]
        exact hd.1.symm
    · simp only [if_neg hd]
      by_cases hx : sx9 (o.disp % 256) = o.disp
      · simp only [if_pos hx]
        refine ⟨?_, ?_, by omega, fun bs n h => ?_⟩
        · unfold more9; rw [if_neg (by omega), if_pos rfl]; rfl
        · unfold base9; rw [if_neg (by rintro ⟨h, _⟩; omega)]
        · have e0 := h 0 (by simp)
          simp at e0
          show disp9 1 bs n = _
          unfold disp9
          rw [if_pos rfl, e0]
          exact hx
      · simp only [if_neg hx]
        refine ⟨?_, ?_, by omega, h4⟩
        · unfold more9; rw [if_neg (by omega), if_neg (by omega)]; rfl
        · unfold base9; rw [if_neg (by rintro ⟨h, _⟩; omega)]
theorem log9_ok (s : Int) (h : s = 1 ∨ s = 2 ∨ s = 4 ∨ s = 8) : 0 ≤ log9 s ∧ log9 s ≤ 3 := by rcases h with rfl | rfl | rfl | rfl <;> decide
/-- What is put is read. -/
theorem put_read (reg : Int) (o : Opd) (r0 : 0 ≤ reg) (r1 : reg < 8) (d0 : 0 ≤ o.disp) (d1 : o.disp < 4294967296) (h : memOk o) (bs : Nat → Int) (hb : ∀ i, i < (putF reg o).length → bs i = (putF reg o).getD i 0) :
    rmF (putF reg o).length bs = some (o, reg, (putF reg o).length) := by
  obtain ⟨hk, hrg, hb0, hb1, hi0, hi1, hi4, hs, his⟩ := h
  obtain ⟨a1, a2, a3, a4⟩ := add_ok o d0 d1
  obtain ⟨B, hB⟩ : ∃ B, (if o.base = -1 then 5 else o.base) = B := ⟨_, rfl⟩
  have hB0 : 0 ≤ B ∧ B < 8 := by rw [← hB]; split <;> omega
  rw [hB] at a1 a2
  by_cases hsib : o.index = -1 ∧ o.base ≠ 4
  · have e : putF reg o = (addM o * 64 + reg * 8 + B) :: addB o := by
      unfold putF
      rw [if_neg (by rw [hk]; decide), if_pos hsib, hB]
    rw [e] at hb ⊢
    have h0 := hb 0 (by simp)
    simp at h0
    have q1 : bs 0 / 64 = addM o := by rw [h0]; omega
    have q2 : bs 0 / 8 % 8 = reg := by rw [h0]; omega
    have q3 : bs 0 % 8 = B := by rw [h0]; omega
    have hB4 : B ≠ 4 := by rw [← hB]; split <;> omega
    have hd := a4 bs 1 (fun i hi => by
      have := hb (1 + i) (by simp; omega)
      rw [this, Nat.add_comm]
      simp)
    unfold rmF
    rw [q1, q2, q3, a1, a2, hd, if_neg (by simp), if_neg (by omega), if_neg hB4, if_neg (by simp; omega)]
    have hsc : o.scale = 1 := by rcases his with h | h; exact absurd hsib.1 h; exact h
    simp only [List.length_cons, Option.some.injEq, Prod.mk.injEq, true_and]
    refine ⟨?_, by omega⟩
    obtain ⟨kind, rg, base, index, scale, disp⟩ := o
    simp only at hk hrg hsc hsib ⊢
    rw [hk, hrg, hsc, hsib.1]
  · obtain ⟨T, hT⟩ : ∃ T, (if o.index = -1 then 32 else log9 o.scale * 64 + o.index * 8) = T := ⟨_, rfl⟩
    have e : putF reg o = (addM o * 64 + reg * 8 + 4) :: (T + B) :: addB o := by
      unfold putF
      rw [if_neg (by rw [hk]; decide), if_neg hsib, hB, hT]
    rw [e] at hb ⊢
    have h0 := hb 0 (by simp)
    have h1 := hb 1 (by simp)
    simp at h0 h1
    have q1 : bs 0 / 64 = addM o := by rw [h0]; omega
    have q2 : bs 0 / 8 % 8 = reg := by rw [h0]; omega
    have q3 : bs 0 % 8 = 4 := by rw [h0]; omega
    have hl := log9_ok o.scale hs
    have q4 : bs 1 % 8 = B := by rw [h1, ← hT]; split <;> omega
    have q5 : sibI (bs 1) = o.index := by
      unfold sibI
      rw [h1, ← hT]
      by_cases hi : o.index = -1
      · rw [if_pos hi, if_pos (by omega), hi]
      · rw [if_neg hi, if_neg (by omega)]; omega
    have q6 : sibS (bs 1) = o.scale := by
      unfold sibS
      rw [h1, ← hT]
      by_cases hi : o.index = -1
      · rw [if_pos hi, if_pos (by omega)]
        rcases his with h | h
        · exact absurd hi h
        · exact h.symm
      · rw [if_neg hi, if_neg (by omega), show (log9 o.scale * 64 + o.index * 8 + B) / 64 = log9 o.scale by omega]
        exact scale_log _ hs
    have hd := a4 bs 2 (fun i hi => by
      have := hb (2 + i) (by simp; omega)
      rw [this, show 2 + i = i + 1 + 1 by omega]
      simp)
    unfold rmF
    rw [q1, q2, q3, q4, q5, q6, a1, a2, hd, if_neg (by simp), if_neg (by omega), if_pos rfl, if_neg (by simp), if_neg (by simp; omega)]
    simp only [List.length_cons, Option.some.injEq, Prod.mk.injEq, true_and]
    refine ⟨?_, by omega⟩
    obtain ⟨kind, rg, base, index, scale, disp⟩ := o
    simp only at hk hrg ⊢
    rw [hk, hrg]
theorem disp9_ok (k : Nat) (bs : Nat → Int) (n : Nat) (hb : ∀ i, 0 ≤ bs i ∧ bs i < 256) : 0 ≤ disp9 k bs n ∧ disp9 k bs n < 4294967296 := by
  unfold disp9
  split
  · have := sx9_ok (bs n) (hb n).1 (hb n).2; omega
  · split
    · unfold four9
      have := hb n; have := hb (n + 1); have := hb (n + 2); have := hb (n + 3)
      omega
    · omega
theorem addB_len (o : Opd) (md base : Int) (bs : Nat → Int) (n : Nat) (hb : ∀ i, 0 ≤ bs i ∧ bs i < 256) (h1 : o.base = base9 md base) (h2 : o.disp = disp9 (more9 md base) bs n) (hbase : 0 ≤ base) : (addB o).length ≤ more9 md base := by
  unfold base9 at h1
  unfold more9 at h2 ⊢
  unfold addB
  by_cases hm0 : md = 0
  · rw [if_pos hm0] at h2 ⊢
    by_cases hb5 : base = 5
    · rw [if_pos ⟨hm0, hb5⟩] at h1
      rw [if_pos hb5, if_pos h1]
      simp [bytes4]
    · rw [if_neg (by rintro ⟨_, h⟩; exact hb5 h)] at h1
      rw [if_neg hb5] at h2 ⊢
      have hz : o.disp = 0 := by rw [h2]; rfl
      by_cases hn : o.base = -1
      · omega
      · rw [if_neg hn, if_pos ⟨hz, by rw [h1]; exact hb5⟩]
        decide
  · rw [if_neg (by rintro ⟨h, _⟩; exact hm0 h)] at h1
    rw [if_neg hm0] at h2 ⊢
    by_cases hm1 : md = 1
    · rw [if_pos hm1] at h2 ⊢
      have hx : sx9 (o.disp % 256) = o.disp := by
        rw [h2]
        exact (sx9_ok (bs n) (hb n).1 (hb n).2).2.2
      by_cases hn : o.base = -1
      · omega
      · rw [if_neg hn]
        split
        · simp
        · simp
    · rw [if_neg hm1]
      split
      · simp [bytes4]
      · split
        · simp
        · split <;> simp [bytes4]
/-- What is read of memory may be. -/
theorem read_ok {L : Nat} {bs : Nat → Int} {o : Opd} {reg : Int} {n : Nat} (hb : ∀ i, 0 ≤ bs i ∧ bs i < 256) (h : rmF L bs = some (o, reg, n)) (h3 : bs 0 / 64 ≠ 3) : memOk o ∧ (0 ≤ reg ∧ reg < 8) ∧ (0 ≤ o.disp ∧ o.disp < 4294967296) ∧ 1 ≤ n ∧ n ≤ 6 ∧ n ≤ L ∧ (putF reg o).length ≤ n := by
  have hb0 := hb 0
  have hb1 := hb 1
  have hm4 : ∀ md base, more9 md base ≤ 4 := fun md base => by unfold more9; split <;> (try split) <;> omega
  unfold rmF at h
  by_cases hL : L = 0
  · rw [if_pos hL] at h; cases h
  · rw [if_neg hL, if_neg h3] at h
    by_cases hr : bs 0 % 8 = 4
    · rw [if_pos hr] at h
      by_cases h2 : L < 2
      · rw [if_pos h2] at h; cases h
      · rw [if_neg h2] at h
        by_cases h4 : L < 2 + more9 (bs 0 / 64) (bs 1 % 8)
        · rw [if_pos h4] at h; cases h
        · rw [if_neg h4] at h
          simp only [Option.some.injEq, Prod.mk.injEq] at h
          obtain ⟨ho, rfl, rfl⟩ := h
          have hd := disp9_ok (more9 (bs 0 / 64) (bs 1 % 8)) bs 2 hb
          have hal := addB_len o (bs 0 / 64) (bs 1 % 8) bs 2 hb (by rw [← ho]) (by rw [← ho]) (by omega)
          have hm := hm4 (bs 0 / 64) (bs 1 % 8)
          refine ⟨?_, by omega, by rw [← ho]; exact hd, by omega, by omega, by omega, ?_⟩
          · rw [← ho]
            refine ⟨rfl, rfl, ?_, ?_, ?_, ?_, ?_, ?_, ?_⟩
            · show -1 ≤ base9 _ _; unfold base9; split <;> omega
            · show base9 _ _ ≤ 7; unfold base9; split <;> omega
            · show -1 ≤ sibI _; unfold sibI; split <;> omega
            · show sibI _ ≤ 7; unfold sibI; split <;> omega
            · show sibI _ ≠ 4; unfold sibI; split <;> omega
            · show sibS _ = 1 ∨ _; unfold sibS; split
              · exact .inl rfl
              · exact scale9_ok _
            · show sibI _ ≠ -1 ∨ sibS _ = 1; unfold sibI sibS; split
              · exact .inr rfl
              · exact .inl (by omega)
          · have hk : o.kind = 3 := by rw [← ho]
            unfold putF
            rw [if_neg (by rw [hk]; decide)]
            split <;> simp <;> omega
    · rw [if_neg hr] at h
      by_cases h4 : L < 1 + more9 (bs 0 / 64) (bs 0 % 8)
      · rw [if_pos h4] at h; cases h
      · rw [if_neg h4] at h
        simp only [Option.some.injEq, Prod.mk.injEq] at h
        obtain ⟨ho, rfl, rfl⟩ := h
        have hd := disp9_ok (more9 (bs 0 / 64) (bs 0 % 8)) bs 1 hb
        have hal := addB_len o (bs 0 / 64) (bs 0 % 8) bs 1 hb (by rw [← ho]) (by rw [← ho]) (by omega)
        have hm := hm4 (bs 0 / 64) (bs 0 % 8)
        refine ⟨?_, by omega, by rw [← ho]; exact hd, by omega, by omega, by omega, ?_⟩
        · rw [← ho]
          refine ⟨rfl, rfl, ?_, ?_, Int.le_refl _, by show (-1 : Int) ≤ 7; decide, by show (-1 : Int) ≠ 4; decide, .inl rfl, .inr rfl⟩
          · show -1 ≤ base9 _ _; unfold base9; split <;> omega
          · show base9 _ _ ≤ 7; unfold base9; split <;> omega
        · have hk : o.kind = 3 := by rw [← ho]
          have hi : o.index = -1 := by rw [← ho]
          have hbs : o.base ≠ 4 := by rw [← ho]; show base9 _ _ ≠ 4; unfold base9; split <;> omega
          unfold putF
          rw [if_neg (by rw [hk]; decide), if_pos ⟨hi, hbs⟩]
          simp
          omega
end Go.Proofs.Ytbbegbaaefgikaa
