/- Operands and their bytes: numbers only.; Which instruction bytes are: the table, in numbers.; Plain arithmetic of layer 1: what a sum, a difference and their flags are, as numbers, and small facts on them. No program is named here.; What lies in memory, through stores and calls.; Memory of which a call may write some blocks and no others; maps that stay.; The document's own memory (package salternref6): bytes that were set, in a map.; The document's own memory is written.; The last step of a statement whose arguments have memory behind them, of which the call has written nothing: they read as they did.; Slices of whole numbers as they read; strings of bytes; pages that were set. -/
import Derived.WalkKit
import Derived.Maps.Own
import Derived.Maps.OwnOps
import Derived.Maps.Views
import Derived.Test.YtlhfpfiehgcciaaRows
import Derived.ProofKit
import Derived.OpenShut
import Derived.BigRegion
import Derived.Lib.Hide
import Derived.WalkLawsBesides
import Derived.Deep.OwnRows
import Derived.StillTailTactics
import Derived.Deep.DeepCutAuto
import Derived.ChangeSame
import Derived.ChangeArms
import Derived.Carry
import Derived.ChangeSlices
import Derived.Laws.IdiomStrings
import Derived.Laws.BytesString
namespace Go.Proofs.Ytlhfpfiehgcciaa

/-- an operand: kind, register, base, index, scale, number -/
structure Opd where
  kind : Int
  reg : Int
  base : Int
  index : Int
  scale : Int
  disp : Int
  deriving DecidableEq
/-- a signed byte, as 32 bits -/
def sx9 (c : Int) : Int := if c < 128 then c else c + 4294967040
/-- four bytes -/
def four9 (a b c d : Int) : Int := a + b * 256 + c * 65536 + d * 16777216
def scale9 (k : Int) : Int := if k = 0 then 1 else if k = 1 then 2 else if k = 2 then 4 else 8
/-- the byte behind: scale and index; none of 4 -/
def sibI (s : Int) : Int := if s / 8 % 8 = 4 then -1 else s / 8 % 8
def sibS (s : Int) : Int := if s / 8 % 8 = 4 then 1 else scale9 (s / 64)
/-- how many bytes of a number are added -/
def more9 (md base : Int) : Nat := if md = 0 then (if base = 5 then 4 else 0) else if md = 1 then 1 else 4
def disp9 (k : Nat) (bs : Nat → Int) (n : Nat) : Int := if k = 1 then sx9 (bs n) else if k = 4 then four9 (bs n) (bs (n + 1)) (bs (n + 2)) (bs (n + 3)) else 0
def base9 (md base : Int) : Int := if md = 0 ∧ base = 5 then -1 else base
/-- the operand of bytes: it, reg, how many bytes; none: too few -/
def rmF (L : Nat) (bs : Nat → Int) : Option (Opd × Int × Nat) :=
  if L = 0 then none
  else if bs 0 / 64 = 3 then some (⟨1, bs 0 % 8, -1, -1, 1, 0⟩, bs 0 / 8 % 8, 1)
  else if bs 0 % 8 = 4 then
    if L < 2 then none
    else if L < 2 + more9 (bs 0 / 64) (bs 1 % 8) then none
    else some (⟨3, 0, base9 (bs 0 / 64) (bs 1 % 8), sibI (bs 1), sibS (bs 1), disp9 (more9 (bs 0 / 64) (bs 1 % 8)) bs 2⟩, bs 0 / 8 % 8, 2 + more9 (bs 0 / 64) (bs 1 % 8))
  else if L < 1 + more9 (bs 0 / 64) (bs 0 % 8) then none
  else some (⟨3, 0, base9 (bs 0 / 64) (bs 0 % 8), -1, 1, disp9 (more9 (bs 0 / 64) (bs 0 % 8)) bs 1⟩, bs 0 / 8 % 8, 1 + more9 (bs 0 / 64) (bs 0 % 8))
/-- an operand of memory that may be -/
def memOk (o : Opd) : Prop := o.kind = 3 ∧ o.reg = 0 ∧ -1 ≤ o.base ∧ o.base ≤ 7 ∧ -1 ≤ o.index ∧ o.index ≤ 7 ∧ o.index ≠ 4 ∧ (o.scale = 1 ∨ o.scale = 2 ∨ o.scale = 4 ∨ o.scale = 8) ∧ (o.index ≠ -1 ∨ o.scale = 1)
instance (o : Opd) : Decidable (memOk o) := by unfold memOk; infer_instance
def regOk (o : Opd) : Prop := 0 ≤ o.reg ∧ o.reg ≤ 7 ∧ o = ⟨1, o.reg, -1, -1, 1, 0⟩
instance (o : Opd) : Decidable (regOk o) := by unfold regOk; infer_instance
def log9 (s : Int) : Int := if s = 1 then 0 else if s = 2 then 1 else if s = 4 then 2 else 3
def bytes4 (v : Int) : List Int := [v % 256, v / 256 % 256, v / 65536 % 256, v / 16777216 % 256]
/-- mod, and the bytes that are added -/
def addM (o : Opd) : Int := if o.base = -1 then 0 else if o.disp = 0 ∧ o.base ≠ 5 then 0 else if sx9 (o.disp % 256) = o.disp then 1 else 2
def addB (o : Opd) : List Int := if o.base = -1 then bytes4 o.disp else if o.disp = 0 ∧ o.base ≠ 5 then [] else if sx9 (o.disp % 256) = o.disp then [o.disp % 256] else bytes4 o.disp
/-- the shortest bytes of an operand -/
def putF (reg : Int) (o : Opd) : List Int :=
  if o.kind = 1 then [192 + reg * 8 + o.reg]
  else if o.index = -1 ∧ o.base ≠ 4 then (addM o * 64 + reg * 8 + (if o.base = -1 then 5 else o.base)) :: addB o
  else (addM o * 64 + reg * 8 + 4) :: ((if o.index = -1 then 32 else log9 o.scale * 64 + o.index * 8) + (if o.base = -1 then 5 else o.base)) :: addB o
theorem four_bytes (v : Int) (h0 : 0 ≤ v) (h1 : v < 4294967296) : four9 (v % 256) (v / 256 % 256) (v / 65536 % 256) (v / 16777216 % 256) = v := by unfold four9; omega
theorem scale_log (s : Int) (h : s = 1 ∨ s = 2 ∨ s = 4 ∨ s = 8) : scale9 (log9 s) = s := by rcases h with rfl | rfl | rfl | rfl <;> decide
theorem scale9_ok (k : Int) : scale9 k = 1 ∨ scale9 k = 2 ∨ scale9 k = 4 ∨ scale9 k = 8 := by unfold scale9; split <;> (try split) <;> (try split) <;> simp
theorem sx9_ok (c : Int) (h0 : 0 ≤ c) (h1 : c < 256) : 0 ≤ sx9 c ∧ sx9 c < 4294967296 ∧ sx9 (sx9 c % 256) = sx9 c := by
  unfold sx9
  by_cases h : c < 128
  · rw [if_pos h, if_pos (by omega)]; omega
  · rw [if_neg h, if_neg (by omega)]; omega
theorem add_ok (o : Opd) (d0 : 0 ≤ o.disp) (d1 : o.disp < 4294967296) : more9 (addM o) (if o.base = -1 then 5 else o.base) = (addB o).length ∧ base9 (addM o) (if o.base = -1 then 5 else o.base) = o.base ∧ (0 ≤ addM o ∧ addM o ≤ 2) ∧
    ∀ (bs : Nat → Int) (n : Nat), (∀ i, i < (addB o).length → bs (n + i) = (addB o).getD i 0) → disp9 (addB o).length bs n = o.disp := by
  have h4 : ∀ (bs : Nat → Int) (n : Nat), (∀ i, i < (bytes4 o.disp).length → bs (n + i) = (bytes4 o.disp).getD i 0) → disp9 (bytes4 o.disp).length bs n = o.disp := fun bs n h => by
    have e0 := h 0 (by simp [bytes4])
    have e1 := h 1 (by simp [bytes4])
    have e2 := h 2 (by simp [bytes4])
    have e3 := h 3 (by simp [bytes4])
    simp [bytes4] at e0 e1 e2 e3
    show disp9 4 bs n = _
    unfold disp9
    rw [if_neg (by omega), if_pos rfl, e0, e1, e2, e3]
    exact four_bytes _ d0 d1
  unfold addM addB
  by_cases hb : o.base = -1
  · simp only [if_pos hb]
    exact ⟨rfl, by rw [hb]; rfl, by omega, h4⟩
  · simp only [if_neg hb]
    by_cases hd : o.disp = 0 ∧ o.base ≠ 5
    · simp only [if_pos hd]
      refine ⟨?_, ?_, by omega, fun bs n _ => ?_⟩
      · unfold more9; rw [if_pos rfl, if_neg hd.2]; rfl
      · unfold base9; rw [if_neg (by rintro ⟨_, h⟩; exact hd.2 h)]
      · show disp9 0 bs n = _
        unfold disp9
        rw [if_neg (by omega), if_neg (by omega)]
        exact hd.1.symm
    · simp only [if_neg hd]
      by_cases hx : sx9 (o.disp % 256) = o.disp
      · simp only [if_pos hx]
        refine ⟨?_, ?_, by omega, fun bs n h => ?_⟩
        · unfold more9; rw [if_neg (by omega), if_pos rfl]; rfl
        · unfold base9; rw [if_neg (by rintro ⟨h, _⟩; omega)]
        · have e0 := h 0 (by simp)
          simp at e0
          show disp9 1 bs n = _
          unfold disp9
          rw [if_pos rfl, e0]
          exact hx
      · simp only [if_neg hx]
        refine ⟨?_, ?_, by omega, h4⟩
        · unfold more9; rw [if_neg (by omega), if_neg (by omega)]; rfl
        · unfold base9; rw [if_neg (by rintro ⟨h, _⟩; omega)]
theorem log9_ok (s : Int) (h : s = 1 ∨ s = 2 ∨ s = 4 ∨ s = 8) : 0 ≤ log9 s ∧ log9 s ≤ 3 := by rcases h with rfl | rfl | rfl | rfl <;> decide
/-- What is put is read. -/
theorem put_read (reg : Int) (o : Opd) (r0 : 0 ≤ reg) (r1 : reg < 8) (d0 : 0 ≤ o.disp) (d1 : o.disp < 4294967296) (h : memOk o) (bs : Nat → Int) (hb : ∀ i, i < (putF reg o).length → bs i = (putF reg o).getD i 0) :
    rmF (putF reg o).length bs = some (o, reg, (putF reg o).length) := by
  obtain ⟨hk, hrg, hb0, hb1, hi0, hi1, hi4, hs, his⟩ := h
  obtain ⟨a1, a2, a3, a4⟩ := add_ok o d0 d1
  obtain ⟨B, hB⟩ : ∃ B, (if o.base = -1 then 5 else o.base) = B := ⟨_, rfl⟩
  have hB0 : 0 ≤ B ∧ B < 8 := by rw [← hB]; split <;> omega
  rw [hB] at a1 a2
  by_cases hsib : o.index = -1 ∧ o.base ≠ 4
  · have e : putF reg o = (addM o * 64 + reg * 8 + B) :: addB o := by
      unfold putF
      rw [if_neg (by rw [hk]; decide), if_pos hsib, hB]
    rw [e] at hb ⊢
    have h0 := hb 0 (by simp)
    simp at h0
    have q1 : bs 0 / 64 = addM o := by rw [h0]; omega
    have q2 : bs 0 / 8 % 8 = reg := by rw [h0]; omega
    have q3 : bs 0 % 8 = B := by rw [h0]; omega
    have hB4 : B ≠ 4 := by rw [← hB]; split <;> omega
    have hd := a4 bs 1 (fun i hi => by
      have := hb (1 + i) (by simp; omega)
      rw [this, Nat.add_comm]
      simp)
    unfold rmF
    rw [q1, q2, q3, a1, a2, hd, if_neg (by simp), if_neg (by omega), if_neg hB4, if_neg (by simp; omega)]
    have hsc : o.scale = 1 := by rcases his with h | h; exact absurd hsib.1 h; exact h
    simp only [List.length_cons, Option.some.injEq, Prod.mk.injEq, true_and]
    refine ⟨?_, by omega⟩
    obtain ⟨kind, rg, base, index, scale, disp⟩ := o
    simp only at hk hrg hsc hsib ⊢
    rw [hk, hrg, hsc, hsib.1]
  · obtain ⟨T, hT⟩ : ∃ T, (if o.index = -1 then 32 else log9 o.scale * 64 + o.index * 8) = T := ⟨_, rfl⟩
    have e : putF reg o = (addM o * 64 + reg * 8 + 4) :: (T + B) :: addB o := by
      unfold putF
      rw [if_neg (by rw [hk]; decide), if_neg hsib, hB, hT]
    rw [e] at hb ⊢
    have h0 := hb 0 (by simp)
    have h1 := hb 1 (by simp)
    simp at h0 h1
    have q1 : bs 0 / 64 = addM o := by rw [h0]; omega
    have q2 : bs 0 / 8 % 8 = reg := by rw [h0]; omega
    have q3 : bs 0 % 8 = 4 := by rw [h0]; omega
    have hl := log9_ok o.scale hs
    have q4 : bs 1 % 8 = B := by rw [h1, ← hT]; split <;> omega
    have q5 : sibI (bs 1) = o.index := by
      unfold sibI
      rw [h1, ← hT]
      by_cases hi : o.index = -1
      · rw [if_pos hi, if_pos (by omega), hi]
      · rw [if_neg hi, if_neg (by omega)]; omega
    have q6 : sibS (bs 1) = o.scale := by
      unfold sibS
      rw [h1, ← hT]
      by_cases hi : o.index = -1
      · rw [if_pos hi, if_pos (by omega)]
        rcases his with h | h
        · exact absurd hi h
        · exact h.symm
      · rw [if_neg hi, if_neg (by omega), show (log9 o.scale * 64 + o.index * 8 + B) / 64 = log9 o.scale by omega]
        exact scale_log _ hs
    have hd := a4 bs 2 (fun i hi => by
      have := hb (2 + i) (by simp; omega)
      rw [this, show 2 + i = i + 1 + 1 by omega]
      simp)
    unfold rmF
    rw [q1, q2, q3, q4, q5, q6, a1, a2, hd, if_neg (by simp), if_neg (by omega), if_pos rfl, if_neg (by simp), if_neg (by simp; omega)]
    simp only [List.length_cons, Option.some.injEq, Prod.mk.injEq, true_and]
    refine ⟨?_, by omega⟩
    obtain ⟨kind, rg, base, index, scale, disp⟩ := o
    simp only at hk hrg ⊢
    rw [hk, hrg]
theorem disp9_ok (k : Nat) (bs : Nat → Int) (n : Nat) (hb : ∀ i, 0 ≤ bs i ∧ bs i < 256) : 0 ≤ disp9 k bs n ∧ disp9 k bs n < 4294967296 := by
  unfold disp9
  split
  · have := sx9_ok (bs n) (hb n).1 (hb n).2; omega
  · split
    · unfold four9
      have := hb n; have := hb (n + 1); have := hb (n + 2); have := hb (n + 3)
      omega
    · omega
theorem addB_len (o : Opd) (md base : Int) (bs : Nat → Int) (n : Nat) (hb : ∀ i, 0 ≤ bs i ∧ bs i < 256) (h1 : o.base = base9 md base) (h2 : o.disp = disp9 (more9 md base) bs n) (hbase : 0 ≤ base) : (addB o).length ≤ more9 md base := by
  unfold base9 at h1
  unfold more9 at h2 ⊢
  unfold addB
  by_cases hm0 : md = 0
  · rw [if_pos hm0] at h2 ⊢
    by_cases hb5 : base = 5
    · rw [if_pos ⟨hm0, hb5⟩] at h1
      rw [if_pos hb5, if_pos h1]
      simp [bytes4]
    · rw [if_neg (by rintro ⟨_, h⟩; exact hb5 h)] at h1
      rw [if_neg hb5] at h2 ⊢
      have hz : o.disp = 0 := by rw [h2]; rfl
      by_cases hn : o.base = -1
      · omega
      · rw [if_neg hn, if_pos ⟨hz, by rw [h1]; exact hb5⟩]
        decide
  · rw [if_neg (by rintro ⟨h, _⟩; exact hm0 h)] at h1
    rw [if_neg hm0] at h2 ⊢
    by_cases hm1 : md = 1
    · rw [if_pos hm1] at h2 ⊢
      have hx : sx9 (o.disp % 256) = o.disp := by
        rw [h2]
        exact (sx9_ok (bs n) (hb n).1 (hb n).2).2.2
      by_cases hn : o.base = -1
      · omega
      · rw [if_neg hn]
        split
        · simp
        · simp
    · rw [if_neg hm1]
      split
      · simp [bytes4]
      · split
        · simp
        · split <;> simp [bytes4]
/-- What is read of memory may be. -/
theorem read_ok {L : Nat} {bs : Nat → Int} {o : Opd} {reg : Int} {n : Nat} (hb : ∀ i, 0 ≤ bs i ∧ bs i < 256) (h : rmF L bs = some (o, reg, n)) (h3 : bs 0 / 64 ≠ 3) : memOk o ∧ (0 ≤ reg ∧ reg < 8) ∧ (0 ≤ o.disp ∧ o.disp < 4294967296) ∧ 1 ≤ n ∧ n ≤ 6 ∧ n ≤ L ∧ (putF reg o).length ≤ n := by
  have hb0 := hb 0
  have hb1 := hb 1
  have hm4 : ∀ md base, more9 md base ≤ 4 := fun md base => by unfold more9; split <;> (try split) <;> omega
  unfold rmF at h
  by_cases hL : L = 0
  · rw [if_pos hL] at h; cases h
  · rw [if_neg hL, if_neg h3] at h
    by_cases hr : bs 0 % 8 = 4
    · rw [if_pos hr] at h
      by_cases h2 : L < 2
      · rw [if_pos h2] at h; cases h
      · rw [if_neg h2] at h
        by_cases h4 : L < 2 + more9 (bs 0 / 64) (bs 1 % 8)
        · rw [if_pos h4] at h; cases h
        · rw [if_neg h4] at h
          simp only [Option.some.injEq, Prod.mk.injEq] at h
          obtain ⟨ho, rfl, rfl⟩ := h
          have hd := disp9_ok (more9 (bs 0 / 64) (bs 1 % 8)) bs 2 hb
          have hal := addB_len o (bs 0 / 64) (bs 1 % 8) bs 2 hb (by rw [← ho]) (by rw [← ho]) (by omega)
          have hm := hm4 (bs 0 / 64) (bs 1 % 8)
          refine ⟨?_, by omega, by rw [← ho]; exact hd, by omega, by omega, by omega, ?_⟩
          · rw [← ho]
            refine ⟨rfl, rfl, ?_, ?_, ?_, ?_, ?_, ?_, ?_⟩
            · show -1 ≤ base9 _ _; unfold base9; split <;> omega
            · show base9 _ _ ≤ 7; unfold base9; split <;> omega
            · show -1 ≤ sibI _; unfold sibI; split <;> omega
            · show sibI _ ≤ 7; unfold sibI; split <;> omega
            · show sibI _ ≠ 4; unfold sibI; split <;> omega
            · show sibS _ = 1 ∨ _; unfold sibS; split
              · exact .inl rfl
              · exact scale9_ok _
            · show sibI _ ≠ -1 ∨ sibS _ = 1; unfold sibI sibS; split
              · exact .inr rfl
              · exact .inl (by omega)
          · have hk : o.kind = 3 := by rw [← ho]
            unfold putF
            rw [if_neg (by rw [hk]; decide)]
            split <;> simp <;> omega
    · rw [if_neg hr] at h
      by_cases h4 : L < 1 + more9 (bs 0 / 64) (bs 0 % 8)
      · rw [if_pos h4] at h; cases h
      · rw [if_neg h4] at h
        simp only [Option.some.injEq, Prod.mk.injEq] at h
        obtain ⟨ho, rfl, rfl⟩ := h
        have hd := disp9_ok (more9 (bs 0 / 64) (bs 0 % 8)) bs 1 hb
        have hal := addB_len o (bs 0 / 64) (bs 0 % 8) bs 1 hb (by rw [← ho]) (by rw [← ho]) (by omega)
        have hm := hm4 (bs 0 / 64) (bs 0 % 8)
        refine ⟨?_, by omega, by rw [← ho]; exact hd, by omega, by omega, by omega, ?_⟩
        · rw [← ho]
          refine ⟨rfl, rfl, ?_, ?_, Int.le_refl _, by show (-1 : Int) ≤ 7; decide, by show (-1 : Int) ≠ 4; decide, .inl rfl, .inr rfl⟩
          · show -1 ≤ base9 _ _; unfold base9; split <;> omega
          · show base9 _ _ ≤ 7; unfold base9; split <;> omega
        · have hk : o.kind = 3 := by rw [← ho]
          have hi : o.index = -1 := by rw [← ho]
          have hbs : o.base ≠ 4 := by rw [← ho]; show base9 _ _ ≠ 4; unfold base9; split <;> omega
          unfold putF
          rw [if_neg (by rw [hk]; decide), if_pos ⟨hi, hbs⟩]
          simp
          omega
end Go.Proofs.Ytlhfpfiehgcciaa
namespace Go.Proofs.Ytlhfpfiehgcciaa

/-- what stands behind an opcode -/
structure Frm where
  op : Int
  cond : Int
  size : Int
  how : List UInt8
  c : Int
  deriving DecidableEq
def nilF : Frm := ⟨0, 0, 0, [], 0⟩
def isF (c op size : Int) (how : List UInt8) : Frm × Bool × Bool := (⟨op, 0, size, how, c % 8⟩, op != 0, false)
def grpF (l : List Int) (reg : Int) : Int := l.getD reg.toNat 0
def byF (c reg : Int) (l : List Int) (size : Int) (how : List UInt8) : Frm × Bool × Bool := if reg < 0 then (nilF, false, true) else isF c (grpF l reg) size how
def alus : List Int := [1, 2, 3, 4, 5, 6, 7, 8]
def shfs : List Int := [26, 27, 0, 0, 28, 29, 0, 30]
/-- the opcodes of one byte; reg: of the byte behind, -1: there is none -/
def firstF (c reg : Int) (m3 : Bool) : Frm × Bool × Bool :=
  let s := 1 + 3 * (c % 2)
  if c < 64 ∧ c % 8 < 6 then isF c (grpF alus (c / 8)) ([1, 4, 1, 4, 1, 4].getD (c % 8).toNat 0) ([[69, 71], [69, 71], [71, 69], [71, 69], [97, 73], [97, 73]].getD (c % 8).toNat [])
  else if 64 ≤ c ∧ c < 72 then isF c 16 4 [114]
  else if 72 ≤ c ∧ c < 80 then isF c 17 4 [114]
  else if 80 ≤ c ∧ c < 88 then isF c 23 4 [114]
  else if 88 ≤ c ∧ c < 96 then isF c 24 4 [114]
  else if 112 ≤ c ∧ c < 128 then (⟨31, c % 16, 0, [98], c % 8⟩, true, false)
  else if 145 ≤ c ∧ c < 152 then isF c 22 4 [97, 114]
  else if 176 ≤ c ∧ c < 184 then isF c 18 1 [114, 73]
  else if 184 ≤ c ∧ c < 192 then isF c 18 4 [114, 73]
  else if c = 0x68 then isF c 23 4 [73]
  else if c = 0x6a then isF c 23 4 [98]
  else if c = 0x69 then (⟨25, 1, 4, [71, 69, 76], c % 8⟩, true, false)
  else if c = 0x6b then (⟨25, 1, 4, [71, 69, 66], c % 8⟩, true, false)
  else if c = 0x80 then byF c reg alus 1 [69, 73]
  else if c = 0x81 then byF c reg alus 4 [69, 73]
  else if c = 0x83 then byF c reg alus 4 [69, 98]
  else if c = 0x84 ∨ c = 0x85 then isF c 9 s [69, 71]
  else if c = 0x86 ∨ c = 0x87 then isF c 22 s [69, 71]
  else if c = 0x88 ∨ c = 0x89 then isF c 18 s [69, 71]
  else if c = 0x8a ∨ c = 0x8b then isF c 18 s [71, 69]
  else if c = 0x8d then (if reg < 0 then (nilF, false, true) else (⟨21, 0, 4, [71, 69], c % 8⟩, !m3, false))
  else if c = 0x8f then byF c reg [24] 4 [69]
  else if c = 0x90 then isF c 50 0 []
  else if c = 0x98 then isF c 37 0 []
  else if c = 0x99 then isF c 38 0 []
  else if c = 0xa0 ∨ c = 0xa1 then isF c 18 s [97, 109]
  else if c = 0xa2 ∨ c = 0xa3 then isF c 18 s [109, 97]
  else if c = 0xa4 ∨ c = 0xa5 then isF c 46 s []
  else if c = 0xa8 ∨ c = 0xa9 then isF c 9 s [97, 73]
  else if c = 0xaa ∨ c = 0xab then isF c 47 s []
  else if c = 0xac ∨ c = 0xad then isF c 48 s []
  else if c = 0xc1 then byF c reg shfs 4 [69, 98]
  else if c = 0xd1 then byF c reg shfs 4 [69, 49]
  else if c = 0xd3 then byF c reg shfs 4 [69, 99]
  else if c = 0xc2 then isF c 34 0 [119]
  else if c = 0xc3 then isF c 34 0 []
  else if c = 0xc6 ∨ c = 0xc7 then byF c reg [18] s [69, 73]
  else if c = 0xc9 then isF c 49 0 []
  else if c = 0xcc then isF c 40 0 []
  else if c = 0xf4 then isF c 39 0 []
  else if c = 0xe8 then isF c 33 0 [105]
  else if c = 0xe9 then isF c 32 0 [105]
  else if c = 0xeb then isF c 32 0 [98]
  else if c = 0xf5 then isF c 43 0 []
  else if c = 0xf8 then isF c 41 0 []
  else if c = 0xf9 then isF c 42 0 []
  else if c = 0xfc then isF c 44 0 []
  else if c = 0xfd then isF c 45 0 []
  else if c = 0xf6 then (if reg = 0 then isF c 9 1 [69, 73] else byF c reg [0, 0, 10, 11] 1 [69])
  else if c = 0xf7 then (if reg = 0 then isF c 9 4 [69, 73] else byF c reg [0, 0, 10, 11, 12, 13, 14, 15] 4 [69])
  else if c = 0xfe then byF c reg [16, 17] 1 [69]
  else if c = 0xff then byF c reg [16, 17, 33, 0, 32, 0, 23] 4 [69]
  else (nilF, false, false)
end Go.Proofs.Ytlhfpfiehgcciaa
namespace Go.Proofs.Ytlhfpfiehgcciaa
open Go.RowKit

def wid (n : Int) : Nat := if n < 2 then 8 else if n < 4 then 16 else 32
def cut (v n : Int) : Int := v % 2 ^ (wid n)
def bt (v : Int) (k : Nat) : Bool := decide (v / 2 ^ k % 2 = 1)
def hi (v n : Int) : Bool := bt v (wid n - 1)
def par (v : Int) : Bool := decide ((v % 2 + v / 2 % 2 + v / 4 % 2 + v / 8 % 2 + v / 16 % 2 + v / 32 % 2 + v / 64 % 2 + v / 128 % 2) % 2 = 0)
def zer (v : Int) : Bool := v == 0
def sgn (v n : Int) : Int := if hi (cut v n) n then cut v n - 2 ^ wid n else cut v n
def addV (a b n : Int) (c : Bool) : Int := cut (cut a n + cut b n + c.toNat) n
def addC (a b n : Int) (c : Bool) : Bool := decide (2 ^ wid n ≤ cut a n + cut b n + c.toNat)
def addO (a b n : Int) (c : Bool) : Bool := (hi (cut a n) n == hi (cut b n) n) && (hi (addV a b n c) n != hi (cut a n) n)
def subV (a b n : Int) (c : Bool) : Int := cut (cut a n - cut b n - c.toNat) n
def subC (a b n : Int) (c : Bool) : Bool := decide (cut a n < cut b n + c.toNat)
def subO (a b n : Int) (c : Bool) : Bool := (hi (cut a n) n != hi (cut b n) n) && (hi (subV a b n c) n != hi (cut a n) n)
def stepV (v n by_ : Int) : Int := if 0 < by_ then addV v 1 n false else subV v 1 n false
def stepO (v n by_ : Int) : Bool := if 0 < by_ then addO v 1 n false else subO v 1 n false

theorem wid_cases (n : Int) : wid n = 8 ∨ wid n = 16 ∨ wid n = 32 := by unfold wid; split <;> (try split) <;> simp
theorem wid_lo (n : Int) : (8 : Int) ≤ wid n := by rcases wid_cases n with h | h | h <;> rw [h] <;> decide
theorem wid_hi (n : Int) : (wid n : Int) ≤ 32 := by rcases wid_cases n with h | h | h <;> rw [h] <;> decide
theorem cut_lo (v n : Int) : 0 ≤ cut v n := by
  unfold cut
  rcases wid_cases n with h | h | h <;> rw [h] <;> omega
theorem cut_hi (v n : Int) : cut v n < 4294967296 := by
  unfold cut
  rcases wid_cases n with h | h | h <;> rw [h] <;> omega
theorem cut_cut32 (v n : Int) : cut (v % 4294967296) n = cut v n := by
  unfold cut
  rcases wid_cases n with h | h | h <;> rw [h] <;> omega
theorem cut_cut (v n : Int) : cut (cut v n) n = cut v n := by
  unfold cut
  rcases wid_cases n with h | h | h <;> rw [h] <;> omega
theorem toNat_hi (c : Bool) : (c.toNat : Int) ≤ 1 := by cases c <;> decide
theorem toNat_lo (c : Bool) : 0 ≤ (c.toNat : Int) := Int.natCast_nonneg _
theorem addV_lo (a b n : Int) (c : Bool) : 0 ≤ addV a b n c := cut_lo _ _
theorem addV_hi (a b n : Int) (c : Bool) : addV a b n c < 4294967296 := cut_hi _ _
theorem subV_lo (a b n : Int) (c : Bool) : 0 ≤ subV a b n c := cut_lo _ _
theorem subV_hi (a b n : Int) (c : Bool) : subV a b n c < 4294967296 := cut_hi _ _
theorem stepV_lo (v n i : Int) : 0 ≤ stepV v n i := by unfold stepV; split <;> exact cut_lo _ _
theorem stepV_hi (v n i : Int) : stepV v n i < 4294967296 := by unfold stepV; split <;> exact cut_hi _ _

/-! bits of a number of 32 bits -/
theorem bt_nat (x : Nat) (k : Nat) : bt (x : Int) k = x.testBit k := by
  unfold bt
  rw [Nat.testBit_eq_decide_div_mod_eq]
  have : ((x : Int) / 2 ^ k % 2) = ((x / 2 ^ k % 2 : Nat) : Int) := by simp
  rw [this]
  congr 1
  exact propext ⟨fun h => by exact_mod_cast h, fun h => by exact_mod_cast h⟩
theorem and_lo (a b : Int) (h1 : 0 ≤ a) (h2 : a < 4294967296) (h3 : 0 ≤ b) (h4 : b < 4294967296) : 0 ≤ bits .and .u32 a b := by
  rw [u32_and a b h1 h2 h3 h4]; exact Int.natCast_nonneg _
theorem and_hi (a b : Int) (h1 : 0 ≤ a) (h2 : a < 4294967296) (h3 : 0 ≤ b) (h4 : b < 4294967296) : bits .and .u32 a b < 4294967296 := by
  rw [u32_and a b h1 h2 h3 h4]
  have : a.toNat &&& b.toNat < 2 ^ 32 := Nat.and_lt_two_pow _ (by omega)
  omega
theorem xor_lo (a b : Int) (h1 : 0 ≤ a) (h2 : a < 4294967296) (h3 : 0 ≤ b) (h4 : b < 4294967296) : 0 ≤ bits .xor .u32 a b := by
  rw [u32_xor a b h1 h2 h3 h4]; exact Int.natCast_nonneg _
theorem xor_hi (a b : Int) (h1 : 0 ≤ a) (h2 : a < 4294967296) (h3 : 0 ≤ b) (h4 : b < 4294967296) : bits .xor .u32 a b < 4294967296 := by
  rw [u32_xor a b h1 h2 h3 h4]
  have : a.toNat ^^^ b.toNat < 2 ^ 32 := Nat.xor_lt_two_pow (by omega) (by omega)
  omega
theorem or_lo (a b : Int) (h1 : 0 ≤ a) (h2 : a < 4294967296) (h3 : 0 ≤ b) (h4 : b < 4294967296) : 0 ≤ bits .or .u32 a b := by
  rw [u32_or a b h1 h2 h3 h4]; exact Int.natCast_nonneg _
theorem or_hi (a b : Int) (h1 : 0 ≤ a) (h2 : a < 4294967296) (h3 : 0 ≤ b) (h4 : b < 4294967296) : bits .or .u32 a b < 4294967296 := by
  rw [u32_or a b h1 h2 h3 h4]
  have : a.toNat ||| b.toNat < 2 ^ 32 := Nat.or_lt_two_pow (by omega) (by omega)
  omega
theorem bt_and (a b : Int) (k : Nat) (h1 : 0 ≤ a) (h2 : a < 4294967296) (h3 : 0 ≤ b) (h4 : b < 4294967296) : bt (bits .and .u32 a b) k = (bt a k && bt b k) := by
  rw [u32_and a b h1 h2 h3 h4]
  obtain ⟨A, rfl⟩ := Int.eq_ofNat_of_zero_le h1
  obtain ⟨B, rfl⟩ := Int.eq_ofNat_of_zero_le h3
  simp only [bt_nat, Int.toNat_natCast, Nat.testBit_and]
theorem bt_xor (a b : Int) (k : Nat) (h1 : 0 ≤ a) (h2 : a < 4294967296) (h3 : 0 ≤ b) (h4 : b < 4294967296) : bt (bits .xor .u32 a b) k = (bt a k != bt b k) := by
  rw [u32_xor a b h1 h2 h3 h4]
  obtain ⟨A, rfl⟩ := Int.eq_ofNat_of_zero_le h1
  obtain ⟨B, rfl⟩ := Int.eq_ofNat_of_zero_le h3
  simp only [bt_nat, Int.toNat_natCast, Nat.testBit_xor, bne]
theorem bt_or (a b : Int) (k : Nat) (h1 : 0 ≤ a) (h2 : a < 4294967296) (h3 : 0 ≤ b) (h4 : b < 4294967296) : bt (bits .or .u32 a b) k = (bt a k || bt b k) := by
  rw [u32_or a b h1 h2 h3 h4]
  obtain ⟨A, rfl⟩ := Int.eq_ofNat_of_zero_le h1
  obtain ⟨B, rfl⟩ := Int.eq_ofNat_of_zero_le h3
  simp only [bt_nat, Int.toNat_natCast, Nat.testBit_or]
/-- One bit of a number alone. -/
theorem and_bit (v : Int) (k : Nat) (hk : k < 32) (h1 : 0 ≤ v) (h2 : v < 4294967296) : bits .and .u32 v (2 ^ k) = if bt v k then 2 ^ k else 0 := by
  have hp : (2 : Int) ^ k < 4294967296 := by
    have : (2 : Int) ^ k < 2 ^ 32 := Int.pow_lt_pow_of_lt (by decide) hk
    simpa using this
  have hq : (0 : Int) ≤ 2 ^ k := Int.le_of_lt (Int.pow_pos (by decide))
  rw [u32_and v _ h1 h2 hq hp]
  obtain ⟨V, rfl⟩ := Int.eq_ofNat_of_zero_le h1
  rw [toNat_two_pow, Int.toNat_natCast, bt_nat, Nat.testBit_eq_decide_div_mod_eq, nat_bit]
  have h2 : V / 2 ^ k % 2 = 0 ∨ V / 2 ^ k % 2 = 1 := by omega
  rcases h2 with h2 | h2 <;> rw [h2] <;> simp
theorem and_bit_ne (v : Int) (k : Nat) (hk : k < 32) (h1 : 0 ≤ v) (h2 : v < 4294967296) : (bits .and .u32 v (2 ^ k) != 0) = bt v k := by
  rw [and_bit v k hk h1 h2]
  have hq : (2 : Int) ^ k ≠ 0 := Int.ne_of_gt (Int.pow_pos (by decide))
  cases bt v k <;> simp [hq]
theorem and_bit_eq (u v : Int) (k : Nat) (hk : k < 32) (h1 : 0 ≤ v) (h2 : v < 4294967296) (h3 : 0 ≤ u) (h4 : u < 4294967296) : (bits .and .u32 u (2 ^ k) == bits .and .u32 v (2 ^ k)) = (bt u k == bt v k) := by
  rw [and_bit v k hk h1 h2, and_bit u k hk h3 h4]
  have hq : (2 : Int) ^ k ≠ 0 := Int.ne_of_gt (Int.pow_pos (by decide))
  cases bt v k <;> cases bt u k <;> simp [hq, Ne.symm hq]

/-! what the program's own sums come to -/
theorem cut_eq (v n : Int) : v * 2 ^ (32 - wid n) % 4294967296 / 2 ^ (32 - wid n) = cut v n := by
  unfold cut
  rcases wid_cases n with h | h | h <;> rw [h] <;> simp <;> omega
theorem sgn_eq (v n : Int) : wrap32 (v * 2 ^ (32 - wid n) % 4294967296) / 2 ^ (32 - wid n) = sgn v n := by
  unfold sgn hi bt cut wrap32
  rcases wid_cases n with h | h | h <;> rw [h] <;> simp <;> split <;> omega
theorem high_eq (v n : Int) (h0 : 0 ≤ v) (h1 : v < 4294967296) : (bits .and .u32 (v / 2 ^ (wid n - 1)) 1 != 0) = hi v n := by
  have h2 : 0 ≤ v / 2 ^ (wid n - 1) := Int.ediv_nonneg h0 (Int.le_of_lt (Int.pow_pos (by decide)))
  have h3 : v / 2 ^ (wid n - 1) ≤ v := Int.ediv_le_self _ h0
  have h := and_bit_ne (v / 2 ^ (wid n - 1)) 0 (by decide) h2 (by omega)
  simp only [Int.pow_zero] at h
  rw [h]
  unfold hi bt
  simp
theorem par_fin : ∀ k : Fin 256, (bits .and .u8 (bits .xor .u8 (bits .xor .u8 (bits .xor .u8 (k : Int) ((k : Int) / 16)) (bits .xor .u8 (k : Int) ((k : Int) / 16) / 4)) (bits .xor .u8 (bits .xor .u8 (k : Int) ((k : Int) / 16)) (bits .xor .u8 (k : Int) ((k : Int) / 16) / 4) / 2)) 1 == 0) = par k := by
  decide +kernel
theorem par_mod (v : Int) : par (v % 256) = par v := by
  unfold par
  rw [show v % 256 % 2 = v % 2 by omega, show v % 256 / 2 % 2 = v / 2 % 2 by omega, show v % 256 / 4 % 2 = v / 4 % 2 by omega, show v % 256 / 8 % 2 = v / 8 % 2 by omega,
    show v % 256 / 16 % 2 = v / 16 % 2 by omega, show v % 256 / 32 % 2 = v / 32 % 2 by omega, show v % 256 / 64 % 2 = v / 64 % 2 by omega, show v % 256 / 128 % 2 = v / 128 % 2 by omega]
theorem par_eq (v : Int) : (bits .and .u8 (bits .xor .u8 (bits .xor .u8 (bits .xor .u8 (v % 256) (v % 256 / 16)) (bits .xor .u8 (v % 256) (v % 256 / 16) / 4)) (bits .xor .u8 (bits .xor .u8 (v % 256) (v % 256 / 16)) (bits .xor .u8 (v % 256) (v % 256 / 16) / 4) / 2)) 1 == 0) = par v := by
  have h0 : 0 ≤ v % 256 := by omega
  have h1 : v % 256 < 256 := by omega
  rw [← par_mod v]
  generalize v % 256 = u at *
  obtain ⟨U, rfl⟩ := Int.eq_ofNat_of_zero_le h0
  exact par_fin ⟨U, by omega⟩
theorem addC_eq (a b n : Int) (c : Bool) : ((cut a n + cut b n + (c.toNat : Int)) / 2 ^ min (wid n) 64 != 0) = addC a b n c := by
  have a0 := cut_lo a n
  have a1 := cut_hi a n
  have b0 := cut_lo b n
  have b1 := cut_hi b n
  have c0 := toNat_lo c
  rw [Bool.eq_iff_iff]
  unfold addC
  generalize (c.toNat : Int) = x at *
  simp only [bne_iff_ne, ne_eq, decide_eq_true_eq]
  rcases wid_cases n with h | h | h <;> rw [h] <;> simp <;> omega
theorem addO_eq (a b n : Int) (c : Bool) : hi (bits .and .u32 (bits .xor .u32 (cut a n) (addV a b n c)) (bits .xor .u32 (cut b n) (addV a b n c))) n = addO a b n c := by
  have a0 := cut_lo a n
  have a1 := cut_hi a n
  have b0 := cut_lo b n
  have b1 := cut_hi b n
  have v0 := addV_lo a b n c
  have v1 := addV_hi a b n c
  unfold addO hi
  rw [bt_and _ _ _ (xor_lo _ _ a0 a1 v0 v1) (xor_hi _ _ a0 a1 v0 v1) (xor_lo _ _ b0 b1 v0 v1) (xor_hi _ _ b0 b1 v0 v1), bt_xor _ _ _ a0 a1 v0 v1, bt_xor _ _ _ b0 b1 v0 v1]
  cases bt (cut a n) (wid n - 1) <;> cases bt (cut b n) (wid n - 1) <;> cases bt (addV a b n c) (wid n - 1) <;> rfl
theorem subO_eq (a b n : Int) (c : Bool) : hi (bits .and .u32 (bits .xor .u32 (cut a n) (cut b n)) (bits .xor .u32 (cut a n) (subV a b n c))) n = subO a b n c := by
  have a0 := cut_lo a n
  have a1 := cut_hi a n
  have b0 := cut_lo b n
  have b1 := cut_hi b n
  have v0 := subV_lo a b n c
  have v1 := subV_hi a b n c
  unfold subO hi
  rw [bt_and _ _ _ (xor_lo _ _ a0 a1 b0 b1) (xor_hi _ _ a0 a1 b0 b1) (xor_lo _ _ a0 a1 v0 v1) (xor_hi _ _ a0 a1 v0 v1), bt_xor _ _ _ a0 a1 v0 v1, bt_xor _ _ _ a0 a1 b0 b1]
  cases bt (cut a n) (wid n - 1) <;> cases bt (cut b n) (wid n - 1) <;> cases bt (subV a b n c) (wid n - 1) <;> rfl
/-- A block that a call left alone reads as it did. -/
theorem bcell {W w1 : World} (hb : Below W.heap.size W w1) : (∀ b o, b < W.heap.size → w1.cell? ⟨b, o, none⟩ = W.cell? ⟨b, o, none⟩) ∧ (∀ b o, b < W.heap.size → w1.frozen? ⟨b, o, none⟩ = W.frozen? ⟨b, o, none⟩) :=
  ⟨fun b o h => hb.cell (p := ⟨b, o, none⟩) h, fun b o h => hb.frozen (p := ⟨b, o, none⟩) h⟩
/-! what the document's own sums come to -/
def byt (n : Int) : Int := if n < 2 then 1 else if n < 4 then 2 else 4
theorem byt_wid (n : Int) : 8 * byt n = wid n := by unfold byt wid; split <;> (try split) <;> simp
theorem byt_lo (n : Int) : 1 ≤ byt n := by unfold byt; split <;> (try split) <;> decide
theorem byt_hi (n : Int) : byt n ≤ 4 := by unfold byt; split <;> (try split) <;> decide
/-- The highest bit of a size, as a number. -/
def tp (n : Int) : Int := 2 ^ (wid n - 1)
theorem tp_pow (n : Int) : (2 : Int) ^ ((8 * byt n).toNat - 1) % 4294967296 = tp n := by
  unfold tp
  rw [byt_wid, Int.toNat_natCast]
  rcases wid_cases n with h | h | h <;> rw [h] <;> decide
theorem tp_lo (n : Int) : 1 ≤ tp n := by unfold tp; rcases wid_cases n with h | h | h <;> rw [h] <;> decide
theorem tp_hi (n : Int) : tp n < 4294967296 := by unfold tp; rcases wid_cases n with h | h | h <;> rw [h] <;> decide
theorem tp_mask (n : Int) : bits .or .u32 (tp n) (tp n - 1) = 2 ^ wid n - 1 := by
  unfold tp; rcases wid_cases n with h | h | h <;> rw [h] <;> decide +kernel
theorem rcut_eq (v n : Int) (h0 : 0 ≤ v) (h1 : v < 4294967296) : bits .and .u32 v (bits .or .u32 (tp n) (tp n - 1)) = cut v n := by
  rw [tp_mask]
  exact bits_mask .u32 32 (by decide) (fun m h0 h1 => by rw [IntKind.wrap_u32]; omega) (wid n) (by have := wid_hi n; omega) v h0 (by simpa using h1)
theorem tp_ne (v n : Int) (h0 : 0 ≤ v) (h1 : v < 4294967296) : (bits .and .u32 v (tp n) != 0) = hi v n :=
  and_bit_ne v (wid n - 1) (by have := wid_hi n; omega) h0 h1
theorem tp_eq (u v n : Int) (h0 : 0 ≤ v) (h1 : v < 4294967296) (k0 : 0 ≤ u) (k1 : u < 4294967296) : (bits .and .u32 u (tp n) == bits .and .u32 v (tp n)) = (hi u n == hi v n) :=
  and_bit_eq u v (wid n - 1) (by have := wid_hi n; omega) h0 h1 k0 k1
theorem tp_neq (u v n : Int) (h0 : 0 ≤ v) (h1 : v < 4294967296) (k0 : 0 ≤ u) (k1 : u < 4294967296) : (bits .and .u32 u (tp n) != bits .and .u32 v (tp n)) = (hi u n != hi v n) := by
  have h := tp_eq u v n h0 h1 k0 k1
  simp only [bne]; rw [h]
theorem or_comm32 (a b : Int) : bits .or .u32 a b = bits .or .u32 b a := by
  simp only [bits, BitVec.or_comm]
theorem hi_lt (v n : Int) (h : hi (cut v n) n = false) : cut v n < 2 ^ (wid n - 1) := by
  unfold hi bt at h
  simp only [decide_eq_false_iff_not] at h
  unfold cut at h ⊢
  rcases wid_cases n with h' | h' | h' <;> rw [h'] at h ⊢ <;> simp at h ⊢ <;> omega
theorem hi_ge (v n : Int) (h : hi (cut v n) n = true) : 2 ^ (wid n - 1) ≤ cut v n := by
  unfold hi bt at h
  simp only [decide_eq_true_eq] at h
  unfold cut at h ⊢
  rcases wid_cases n with h' | h' | h' <;> rw [h'] at h ⊢ <;> simp at h ⊢ <;> omega
theorem cut_wid (v n : Int) : cut v n < 2 ^ wid n := by
  unfold cut
  rcases wid_cases n with h | h | h <;> rw [h] <;> omega
theorem inv_mask (n : Int) : bits .xor .u32 4294967295 (bits .or .u32 (tp n) (tp n - 1)) = 4294967296 - 2 ^ wid n := by
  rw [tp_mask]
  rcases wid_cases n with h | h | h <;> rw [h] <;> decide +kernel
theorem rsgn_pos (v n : Int) (h : hi (cut v n) n = true) : wrap32 (bits .or .u32 (cut v n) (bits .xor .u32 4294967295 (bits .or .u32 (tp n) (tp n - 1)))) = sgn v n := by
  have g := hi_ge v n h
  have g0 := cut_lo v n
  have g1 := cut_wid v n
  have g2 := cut_hi v n
  unfold sgn
  rw [if_pos h, inv_mask, or_comm32]
  have hj : bits .or .u32 (4294967296 - 2 ^ wid n) (cut v n) = 4294967296 - 2 ^ wid n + cut v n := by
    rcases wid_cases n with h | h | h
    all_goals
      rw [h] at g1 ⊢
      exact bits_join .u32 32 (by decide) (fun m h0 h1 => by rw [IntKind.wrap_u32]; omega) _ _ _ (by decide) (by decide) (by decide) g0 g1 (by simpa using g2)
  rw [hj]
  unfold wrap32
  rcases wid_cases n with h | h | h <;> rw [h] at g g1 ⊢ <;> simp at g g1 ⊢ <;> omega
theorem rsgn_neg (v n : Int) (h : hi (cut v n) n = false) : wrap32 (cut v n) = sgn v n := by
  have g := hi_lt v n h
  have g0 := cut_lo v n
  unfold sgn
  rw [if_neg (by rw [h]; decide)]
  unfold wrap32
  rcases wid_cases n with h | h | h <;> rw [h] at g <;> simp at g <;> omega
/-- How many of a number's k lowest bits are ones. -/
def ones (v : Int) : Nat → Int
  | 0 => 0
  | k + 1 => ones v k + v / 2 ^ k % 2
theorem ones_lo (v : Int) (k : Nat) : 0 ≤ ones v k := by
  induction k with
  | zero => exact Int.le_refl _
  | succ k ih => unfold ones; have : 0 ≤ v / 2 ^ k % 2 := Int.emod_nonneg _ (by decide); omega
theorem ones_hi (v : Int) (k : Nat) : ones v k ≤ k := by
  induction k with
  | zero => exact Int.le_refl _
  | succ k ih => unfold ones; have : v / 2 ^ k % 2 < 2 := Int.emod_lt_of_pos _ (by decide); omega
theorem ones_par (v : Int) : (ones v 8 % 2 == 0) = par v := by
  unfold par
  rw [show (ones v 8) = (v % 2 + v / 2 % 2 + v / 4 % 2 + v / 8 % 2 + v / 16 % 2 + v / 32 % 2 + v / 64 % 2 + v / 128 % 2) by simp [ones]]
  rfl
theorem and_one (v : Int) (h0 : 0 ≤ v) (h1 : v < 4294967296) : bits .and .u32 v 1 = v % 2 :=
  bits_mask .u32 32 (by decide) (fun m h0 h1 => by rw [IntKind.wrap_u32]; omega) 1 (by decide) v h0 (by simpa using h1)
theorem bit_div (v : Int) (k : Nat) (h0 : 0 ≤ v) (h1 : v < 4294967296) : bits .and .u32 (v / 2 ^ k) 1 = v / 2 ^ k % 2 := by
  have h2 : 0 ≤ v / 2 ^ k := Int.ediv_nonneg h0 (Int.le_of_lt (Int.pow_pos (by decide)))
  have h3 : v / 2 ^ k ≤ v := Int.ediv_le_self _ h0
  exact and_one _ h2 (by omega)
theorem bit_div_lo (v : Int) (k : Nat) (h0 : 0 ≤ v) (h1 : v < 4294967296) : 0 ≤ bits .and .u32 (v / 2 ^ k) 1 := by
  rw [bit_div v k h0 h1]; exact Int.emod_nonneg _ (by decide)
theorem bit_div_hi (v : Int) (k : Nat) (h0 : 0 ≤ v) (h1 : v < 4294967296) : bits .and .u32 (v / 2 ^ k) 1 ≤ 1 := by
  rw [bit_div v k h0 h1]; have := Int.emod_lt_of_pos (v / 2 ^ k) (show (0 : Int) < 2 by decide); omega
theorem bsize {W W1 : World} {o : Obj} (hb : Below (W.alloc o).heap.size (W.alloc o) W1) : W.heap.size < W1.heap.size := by
  have := hb.size
  simp at this
  omega
theorem below_next {w W W1 : World} {o : Obj} (h : Below w.heap.size w W) (hb : Below (W.alloc o).heap.size (W.alloc o) W1) : Below w.heap.size w W1 :=
  (h.alloc h.size _).trans (hb.mono (by have := h.size; simp; omega))
theorem below_on {B : Nat} {a W W1 : World} {o : Obj} (h : Below B a W) (hB : B ≤ W.heap.size) (hb : Below (W.alloc o).heap.size (W.alloc o) W1) : Below B a W1 :=
  (h.alloc hB _).trans (hb.mono (by simp; omega))
theorem below_undrew {a w : World} (h : Below a.drew.heap.size a.drew w) : Below a.heap.size a w := ⟨h.os, h.tape, h.output, h.size, h.block⟩
theorem below_last {w W : World} (h : Below w.heap.size w W) (o : Obj) : Below w.heap.size w (W.alloc o) := h.alloc h.size o
/-! what lies in a block stays there, call by call -/
theorem cell_lt {W : World} {p : Addr} {x : Value} (h : W.cell? p = some x) : p.block < W.heap.size := by
  unfold World.cell? at h
  rcases Nat.lt_or_ge p.block W.heap.size with hl | hl
  · exact hl
  · rw [Array.getElem?_eq_none hl] at h
    simp at h
theorem cell_call {W W1 : World} {p : Addr} {x : Value} (hb : Below W.heap.size W W1) (h : W.cell? p = some x) : W1.cell? p = some x := by
  rw [hb.cell (cell_lt h), h]
theorem cell_next {W W1 : World} {o : Obj} {p : Addr} {x : Value} (hb : Below (W.alloc o).heap.size (W.alloc o) W1) (h : W.cell? p = some x) : W1.cell? p = some x := by
  have hl := cell_lt h
  rw [hb.cell (by simp; omega), World.cell?_alloc_lt _ _ _ hl, h]
theorem six_call {W W1 : World} {b : Nat} {x0 x1 x2 x3 x4 x5 : Value} (hb : Below W.heap.size W W1) (h : W.cell? ⟨b, 0, none⟩ = some x0 ∧ W.cell? ⟨b, 1, none⟩ = some x1 ∧ W.cell? ⟨b, 2, none⟩ = some x2 ∧ W.cell? ⟨b, 3, none⟩ = some x3 ∧ W.cell? ⟨b, 4, none⟩ = some x4 ∧ W.cell? ⟨b, 5, none⟩ = some x5) :
    W1.cell? ⟨b, 0, none⟩ = some x0 ∧ W1.cell? ⟨b, 1, none⟩ = some x1 ∧ W1.cell? ⟨b, 2, none⟩ = some x2 ∧ W1.cell? ⟨b, 3, none⟩ = some x3 ∧ W1.cell? ⟨b, 4, none⟩ = some x4 ∧ W1.cell? ⟨b, 5, none⟩ = some x5 :=
  ⟨cell_call hb h.1, cell_call hb h.2.1, cell_call hb h.2.2.1, cell_call hb h.2.2.2.1, cell_call hb h.2.2.2.2.1, cell_call hb h.2.2.2.2.2⟩
theorem six_next {W W1 : World} {o : Obj} {b : Nat} {x0 x1 x2 x3 x4 x5 : Value} (hb : Below (W.alloc o).heap.size (W.alloc o) W1) (h : W.cell? ⟨b, 0, none⟩ = some x0 ∧ W.cell? ⟨b, 1, none⟩ = some x1 ∧ W.cell? ⟨b, 2, none⟩ = some x2 ∧ W.cell? ⟨b, 3, none⟩ = some x3 ∧ W.cell? ⟨b, 4, none⟩ = some x4 ∧ W.cell? ⟨b, 5, none⟩ = some x5) :
    W1.cell? ⟨b, 0, none⟩ = some x0 ∧ W1.cell? ⟨b, 1, none⟩ = some x1 ∧ W1.cell? ⟨b, 2, none⟩ = some x2 ∧ W1.cell? ⟨b, 3, none⟩ = some x3 ∧ W1.cell? ⟨b, 4, none⟩ = some x4 ∧ W1.cell? ⟨b, 5, none⟩ = some x5 :=
  ⟨cell_next hb h.1, cell_next hb h.2.1, cell_next hb h.2.2.1, cell_next hb h.2.2.2.1, cell_next hb h.2.2.2.2.1, cell_next hb h.2.2.2.2.2⟩
theorem six_call' {B : Nat} {W W1 : World} {o : Obj} {b : Nat} {x0 x1 x2 x3 x4 x5 : Value} (hb : Below B (W.alloc o) W1) (hB : W.heap.size ≤ B) (h : W.cell? ⟨b, 0, none⟩ = some x0 ∧ W.cell? ⟨b, 1, none⟩ = some x1 ∧ W.cell? ⟨b, 2, none⟩ = some x2 ∧ W.cell? ⟨b, 3, none⟩ = some x3 ∧ W.cell? ⟨b, 4, none⟩ = some x4 ∧ W.cell? ⟨b, 5, none⟩ = some x5) :
    W1.cell? ⟨b, 0, none⟩ = some x0 ∧ W1.cell? ⟨b, 1, none⟩ = some x1 ∧ W1.cell? ⟨b, 2, none⟩ = some x2 ∧ W1.cell? ⟨b, 3, none⟩ = some x3 ∧ W1.cell? ⟨b, 4, none⟩ = some x4 ∧ W1.cell? ⟨b, 5, none⟩ = some x5 := by
  have hl := cell_lt h.1
  have k : ∀ (i : Nat) (x : Value), W.cell? ⟨b, i, none⟩ = some x → W1.cell? ⟨b, i, none⟩ = some x := fun i x hx => by
    rw [hb.cell (show b < B from Nat.lt_of_lt_of_le hl hB), World.cell?_alloc_lt _ _ _ (cell_lt hx), hx]
  exact ⟨k _ _ h.1, k _ _ h.2.1, k _ _ h.2.2.1, k _ _ h.2.2.2.1, k _ _ h.2.2.2.2.1, k _ _ h.2.2.2.2.2⟩
/-- A block that was just made holds what was laid into it, behind a call. -/
theorem six_made {W W1 : World} {t : TypeId} {x0 x1 x2 x3 x4 x5 : Value} (hb : Below (W.alloc (.cells #[x0, x1, x2, x3, x4, x5] t)).heap.size (W.alloc (.cells #[x0, x1, x2, x3, x4, x5] t)) W1) :
    W1.cell? ⟨W.heap.size, 0, none⟩ = some x0 ∧ W1.cell? ⟨W.heap.size, 1, none⟩ = some x1 ∧ W1.cell? ⟨W.heap.size, 2, none⟩ = some x2 ∧ W1.cell? ⟨W.heap.size, 3, none⟩ = some x3 ∧ W1.cell? ⟨W.heap.size, 4, none⟩ = some x4 ∧ W1.cell? ⟨W.heap.size, 5, none⟩ = some x5 := by
  refine ⟨?_, ?_, ?_, ?_, ?_, ?_⟩ <;> (rw [hb.cell (by simp)]; simp)
theorem signed_u32 : IntKind.u32.signed = false := rfl
theorem max_u32 : IntKind.u32.max = 4294967295 := by decide
theorem raddC_eq (a b n : Int) (c : Bool) : ((cut a n + cut b n + (c.toNat : Int)) / 2 ^ (8 * byt n).toNat != 0) = addC a b n c := by
  rw [byt_wid, Int.toNat_natCast, ← addC_eq, show min (wid n) 64 = wid n by have := wid_hi n; omega]
theorem raddO_pos (a b n : Int) (c : Bool) (h : (hi (cut a n) n == hi (cut b n) n) = true) : (bits .and .u32 (addV a b n c) (tp n) != bits .and .u32 (cut b n) (tp n)) = addO a b n c := by
  rw [tp_neq _ _ _ (cut_lo _ _) (cut_hi _ _) (addV_lo _ _ _ _) (addV_hi _ _ _ _)]
  unfold addO
  rw [h, Bool.true_and, ← eq_of_beq h]
theorem raddO_pos' (a b n : Int) (c : Bool) (h : (hi (cut a n) n == hi (cut b n) n) = true) : (bits .and .u32 (addV a b n c) (tp n) != bits .and .u32 (cut a n) (tp n)) = addO a b n c := by
  rw [tp_neq _ _ _ (cut_lo _ _) (cut_hi _ _) (addV_lo _ _ _ _) (addV_hi _ _ _ _)]
  unfold addO
  rw [h, Bool.true_and]
theorem addO_neg (a b n : Int) (c : Bool) (h : (hi (cut a n) n == hi (cut b n) n) = false) : addO a b n c = false := by
  unfold addO; rw [h, Bool.false_and]
theorem rsubO_pos (a b n : Int) (c : Bool) (h : (hi (cut a n) n != hi (cut b n) n) = true) : (bits .and .u32 (subV a b n c) (tp n) != bits .and .u32 (cut a n) (tp n)) = subO a b n c := by
  rw [tp_neq _ _ _ (cut_lo _ _) (cut_hi _ _) (subV_lo _ _ _ _) (subV_hi _ _ _ _)]
  unfold subO
  rw [h, Bool.true_and]
theorem subO_neg (a b n : Int) (c : Bool) (h : (hi (cut a n) n != hi (cut b n) n) = false) : subO a b n c = false := by
  unfold subO; rw [h, Bool.false_and]
/-- A store makes and takes no cell. -/
theorem isSome_setCell (w : World) (a b : Addr) (v : Value) : ((w.setCell a v).cell? b).isSome = (w.cell? b).isSome := by
  by_cases h : a = b
  · subst h
    cases hc : w.cell? a with
    | some u => rw [World.cell?_setCell_same w a v hc]; rfl
    | none =>
      cases hd : (w.setCell a v).cell? a with
      | none => rfl
      | some u =>
        exfalso
        revert hc hd
        simp only [World.setCell, World.cell?, Array.getElem?_modify, ↓reduceIte]
        cases w.heap[a.block]? with
        | none => simp
        | some x =>
          cases x <;> simp
          cases hs : a.spot <;> simp
          intro hle; rw [Array.getElem?_eq_none (by simpa using hle)]; simp
  · rw [World.cell?_setCell_other w a b v h]
end Go.Proofs.Ytlhfpfiehgcciaa
namespace Go.Proofs.Ytlhfpfiehgcciaa
open Go.RowKit

theorem set_same {w : World} {a : Addr} {u : Value} (v : Value) (h : w.cell? a = some u) : (w.setCell a v).cell? a = some v := World.cell?_setCell_same w a v h
theorem set_other {w : World} {a b : Addr} {x : Value} (v : Value) (hn : a ≠ b) (h : w.cell? b = some x) : (w.setCell a v).cell? b = some x := by
  rw [World.cell?_setCell_other w a b v hn, h]
/-- Behind a block that was made, and whatever was made behind it, all that lay there reads as it did. -/
theorem cell_under {a W : World} {o : Obj} {p : Addr} {x : Value} (h : a.cell? p = some x) (hb : Below (a.heap.size + 1) (a.alloc o) W) : W.cell? p = some x := by
  have hl := cell_lt h
  rw [hb.cell (by omega), World.cell?_alloc_lt _ _ _ hl, h]
/-- likewise, of what lay below -/
theorem below_under {w a W : World} {o : Obj} (h : Below w.heap.size w a) (hb : Below (a.heap.size + 1) (a.alloc o) W) : Below w.heap.size w W :=
  (h.alloc h.size _).trans (hb.mono (by have := h.size; omega))
end Go.Proofs.Ytlhfpfiehgcciaa
namespace Go.Proofs.Ytlhfpfiehgcciaa
open Go.RowKit Go.Maps

/-- All blocks that were there read as they did, but those of F. -/
structure But (F : Nat → Prop) (w w' : World) : Prop where
  os : w'.os = w.os
  tape : w'.tape = w.tape
  output : w'.output = w.output
  size : w.heap.size ≤ w'.heap.size
  block : ∀ k, k < w.heap.size → ¬ F k → w'.heap[k]? = w.heap[k]?
theorem But.refl (F : Nat → Prop) (w : World) : But F w w := ⟨rfl, rfl, rfl, Nat.le_refl _, fun _ _ _ => rfl⟩
theorem But.trans {F G : Nat → Prop} {a b c : World} (h : But F a b) (k : But G b c) (hG : ∀ i, i < a.heap.size → G i → F i) : But F a c :=
  ⟨k.os.trans h.os, k.tape.trans h.tape, k.output.trans h.output, Nat.le_trans h.size k.size, fun i hi hF => (k.block i (Nat.lt_of_lt_of_le hi h.size) (fun hg => hF (hG i hi hg))).trans (h.block i hi hF)⟩
theorem But.mono {F G : Nat → Prop} {a b : World} (h : But F a b) (hG : ∀ i, i < a.heap.size → F i → G i) : But G a b :=
  ⟨h.os, h.tape, h.output, h.size, fun i hi hn => h.block i hi (fun hf => hn (hG i hi hf))⟩
theorem But.of_below {F : Nat → Prop} {w w' : World} (h : Below w.heap.size w w') : But F w w' := ⟨h.os, h.tape, h.output, h.size, fun k hk _ => h.block k hk⟩
theorem But.of_grown {w w' : World} {b : Nat} (h : w.grownBy w' (some b)) : But (· = b) w w' := ⟨h.os, h.tape, h.output, h.size, fun k hk hn => h.block k hk (fun e => hn (by injection e))⟩
theorem But.alloc {F : Nat → Prop} {w w' : World} (h : But F w w') (o : Obj) : But F w (w'.alloc o) :=
  h.trans (But.of_below (F := F) ((Below.refl _ _).alloc (Nat.le_refl _) _)) (fun _ _ hf => hf)
theorem But.drew {F : Nat → Prop} {w w' : World} (h : But F w w') : But F w w'.drew := ⟨h.os, h.tape, h.output, h.size, h.block⟩
theorem But.setCell {F : Nat → Prop} {w w' : World} (h : But F w w') {a : Addr} (ha : a.block < w.heap.size → F a.block) (v : Value) : But F w (w'.setCell a v) := by
  refine ⟨h.os, h.tape, h.output, by simpa using h.size, fun k hk hn => ?_⟩
  have hne : a.block ≠ k := fun e => hn (e ▸ ha (e ▸ hk))
  rw [← h.block k hk hn]
  simp [World.setCell, Array.getElem?_modify, hne]
theorem But.cell {F : Nat → Prop} {w w' : World} (h : But F w w') {p : Addr} {x : Value} (hc : w.cell? p = some x) (hn : ¬ F p.block) : w'.cell? p = some x := by
  rw [World.cell?_of_block (h.block p.block (cell_lt hc) hn), hc]
theorem But.frozen {F : Nat → Prop} {w w' : World} (h : But F w w') {p : Addr} (hl : p.block < w.heap.size) (hn : ¬ F p.block) : w'.frozen? p = w.frozen? p :=
  World.frozen?_of_block (h.block p.block hl hn)
theorem But.below {F : Nat → Prop} {B : Nat} {a w w' : World} (h : But F w w') (hb : Below B a w) (hF : ∀ k, F k → B ≤ k) (hB : B ≤ w.heap.size) : Below B a w' :=
  ⟨h.os.trans hb.os, h.tape.trans hb.tape, h.output.trans hb.output, Nat.le_trans hb.size h.size, fun k hk => (h.block k (Nat.lt_of_lt_of_le hk hB) (fun hf => by have := hF k hf; omega)).trans (hb.block k hk)⟩
theorem But.owns {H : Type} {F : Nat → Prop} {w w' : World} {P : Program} {k : TypeId} {R : Value → Option (DataW H × List MemPlace)} {b n : Nat} {D : DataW H} (h : But F w w') (hm : w.ownsMap P k R b n D) (hn : ¬ F b) : w'.ownsMap P k R b n D := by
  have hl := hm.lt
  obtain ⟨es, clock, hb, r⟩ := hm
  exact ⟨es, clock, (h.block b hl hn).trans hb, r⟩
end Go.Proofs.Ytlhfpfiehgcciaa
namespace Go.Proofs.Ytlhfpfiehgcciaa
open Go.ChangeShapes Go.WideShapes Go.ChangeAt Go.RowKit Go.Maps Go.Deep

theorem key_u32 : Keyed Try.prog 23 := int_keyed Try.underlying23
theorem zero_u8 (w : World) : (zeroValue 5).run Try.prog w = .ok (.int .u8 0) w := by kernel_rfl
theorem wf_u32 (a : Int) (h0 : 0 ≤ a) (h1 : a < 4294967296) : (Lit.int .u32 a).wf = true := by
  simp only [Lit.wf, Bool.and_eq_true, decide_eq_true_eq]
  have e1 : IntKind.u32.min = 0 := by decide
  have e2 : IntKind.u32.max = 4294967295 := by decide
  omega
theorem wf_u8 (a : Int) (h0 : 0 ≤ a) (h1 : a < 256) : (Lit.int .u8 a).wf = true := by
  simp only [Lit.wf, Bool.and_eq_true, decide_eq_true_eq]
  have e1 : IntKind.u8.min = 0 := by decide
  have e2 : IntKind.u8.max = 255 := by decide
  omega
/-- Block B is a map of at most n entries in which place a has the byte g a. -/
def RefMap (w : World) (B n : Nat) (g : Int → Int) : Prop :=
  ∃ D : DataW Unit, w.ownsMap Try.prog 23 (plainElem Try.prog 5) B n D ∧ (∀ a, 0 ≤ a → a < 4294967296 → D.atKey (.int .u32 a) (.lit (.int .u8 0)) = .lit (.int .u8 (g a))) ∧ IsMap D ∧ ∀ a, 0 ≤ g a ∧ g a < 256
theorem RefMap.but {F : Nat → Prop} {w w' : World} {B n : Nat} {g : Int → Int} (h : RefMap w B n g) (hb : But F w w') (hn : ¬ F B) : RefMap w' B n g := by
  obtain ⟨D, hm, r⟩ := h
  exact ⟨D, hb.owns hm hn, r⟩
theorem RefMap.made (w : World) : RefMap (w.alloc (.map #[] 0)) w.heap.size 0 (fun _ => 0) :=
  ⟨.map [], World.ownsMap_made _ _ _ _, fun _ _ _ => rfl, isMap_empty, fun _ => ⟨Int.le_refl 0, by show (0 : Int) < 256; omega⟩⟩
def setG (g : Int → Int) (a v : Int) : Int → Int := fun b => if b = a then v else g b
theorem info_u8 : (Try.prog.info? 5).map (fun i => (i.zero, i.size, i.bytes)) = some (some (.int .u8 0), 1, 1) := by kernel_rfl
/-- how many bytes a reading has -/
def readN (m : Int) : Nat := if m < 0 then 0 else if 1048576 < m then 1048576 else m.toNat
theorem readN_le (m : Int) : readN m ≤ 1048576 := by unfold readN; split <;> (try split) <;> omega
def place (a : Int) (i : Nat) : Int := (a + i) % 4294967296
attribute [local go_sem] isSome_setCell
end Go.Proofs.Ytlhfpfiehgcciaa
namespace Go.Proofs.Ytlhfpfiehgcciaa
open Go.ChangeShapes Go.WideShapes Go.ChangeAt Go.RowKit Go.Maps Go.Deep

def writeG (g : Int → Int) (a : Int) (bs : Nat → Int) : Nat → Int → Int
  | 0 => g
  | k + 1 => setG (writeG g a bs k) (place a k) (bs k)
end Go.Proofs.Ytlhfpfiehgcciaa
namespace Go.Proofs.Ytlhfpfiehgcciaa
open Go.ChangeShapes Go.WideShapes Go.ChangeAt Go.RowKit

section
variable {H : Type} {enc : TypeId × Value → H} {P : Program}
theorem stays_all (hl : laidOutB P = true) {W W' : World} (hb : Below W.heap.size W W') (sp : Nat → Bool) : ∀ (ts : List TypeId) (vs : List Value) (ds : List (DataW H)) (ps : List MemPlace), (ts.all fun t => P.readableRec t && decide (t < P.types.size)) = true →
    DataW.TrodAll enc P W 0 (fun _ => true) true ts vs ds ps → (∀ x ∈ ps, x.block < W.heap.size ∧ sp x.block = true) → DataW.TrodAll enc P W' 0 sp true ts vs ds ps := by
  intro ts
  induction ts with
  | nil =>
    intro vs ds ps _ h _
    obtain ⟨rfl, rfl, rfl⟩ := trodAll_nil h
    exact trodAll_mk0
  | cons t ts ih =>
    intro vs ds ps ht h hp
    obtain ⟨v, vs', d, ds', p, q, rfl, rfl, rfl, h0, h1⟩ := trodAll_cons h
    simp only [List.all_cons, Bool.and_eq_true, decide_eq_true_eq] at ht
    have h0' : DataW.Trod enc P W' 0 sp true t v d p := WideElems.Trod_stays hl ht.1.1 ht.1.2 h0 (fun x hx => hb.same (hp x (by simp [hx])).1) (fun x hx => (hp x (by simp [hx])).2)
    exact trodAll_cons_mk h0' (ih vs' ds' q (by simpa using ht.2) h1 fun x hx => hp x (by simp [hx]))
theorem post_mem {f : Func} {s : ChangeSpec} {apart fresh handsOn again : Bool} {W W' : World} {args : Array Value} {v : Value} {ds gs : List (DataW H)} {before : List MemPlace}
    (hW : DataW.Whole enc P f.params.toList s.vars apart W args.toList ds gs before) (hv : s.vars = []) (hl : laidOutB P = true) (ht : (f.params.toList.all fun t => P.readableRec t && decide (t < P.types.size)) = true)
    (hb : Below W.heap.size W W') (ha : (s.fn H (ds ++ gs)).args = ds) (hg : (s.fn H (ds ++ gs)).vars = [])
    (hres : ∀ (b : Nat) (sp : Nat → Bool) (hd : Bool), DataW.TrodAll enc P W' b sp hd f.resultTypes.toList (v.resultList f.resultTypes.size) (s.fn H (ds ++ gs)).results [])
    (hok : ∀ (j : Nat) (t : TypeId) (r : Value), f.resultTypes[j]? = some t → (v.resultList f.resultTypes.size)[j]? = some r → Value.okWide P W' .any 0 t r) :
    s.post enc P f apart fresh handsOn again W args v W' := by
  have hlt : ∀ p ∈ before, p.block < W.heap.size := fun p hp => hW.lt p hp
  have hW0 := hW
  obtain ⟨p, q, hA, hV, rfl, hz, hn⟩ := hW
  rw [hv] at hV
  have hq : q = [] := by
    cases gs with
    | nil => exact hV
    | cons _ _ => exact hV.elim
  subst hq
  have hA' : ∀ sp : Nat → Bool, (∀ x ∈ p, sp x.block = true) → DataW.TrodAll enc P W' 0 sp true f.params.toList args.toList (s.fn H (ds ++ gs)).args p := fun sp hsp => by
    rw [ha]
    exact stays_all hl hb sp _ _ _ _ ht hA fun x hx => ⟨hlt x (by simp [hx]), hsp x hx⟩
  have hV' : ∀ sp : Nat → Bool, DataW.TrodVars enc P W' sp s.vars (s.fn H (ds ++ gs)).vars [] := fun sp => by
    rw [hv, hg]
    rfl
  refine ⟨ds, gs, p ++ [], [], p, [], hW0, hres _ _ _, hA' _ (fun x hx => by simpa using hlt x (by simp [hx])), hV' _, World.keptBut_mono (fun x hx => ⟨hx, .inr (.inl (by simpa using hx))⟩) (hb.frame (· ∈ p ++ [])), fun _ => ?_⟩
  refine ⟨hok, _, _, ([] ++ p) ++ [], ⟨[] ++ p, [], trodAll_append (hA' _ (fun _ _ => rfl)) (hres _ _ _), hV' _, rfl, ?_, ?_⟩, ?_⟩
  · intro b off hp
    have hin : MemPlace.cell b off ∈ p ++ [] := by simpa using hp
    rw [hb.frozen (hlt _ hin)]
    exact hz b off hin
  · intro ha
    simpa using hn ha
  · intro x hx _
    simpa using hx
end
end Go.Proofs.Ytlhfpfiehgcciaa
namespace Go.Proofs.Ytlhfpfiehgcciaa
open Go.ChangeShapes Go.WideShapes Go.ChangeAt Go.RowKit

/-- v is a slice of L numbers, bs 0, bs 1, .. -/
def Slc (k : IntKind) (w : World) (v : Value) (L : Nat) (bs : Nat → Int) : Prop :=
  (v = .slice none 0 0 ∧ L = 0) ∨ ∃ ad cap, v = .slice (some ad) L cap ∧ L ≤ cap ∧ ∀ i, i < L → w.cell? (ad.add i) = some (.int k (bs i))
theorem add_block (a : Addr) (i : Nat) : (a.add i).block = a.block := by unfold Addr.add; split <;> rfl
theorem Slc.but {k : IntKind} {F : Nat → Prop} {w w' : World} {v : Value} {L : Nat} {bs : Nat → Int} (h : Slc k w v L bs) (hb : But F w w') (hn : 0 < L → ∀ j, v.ownBlock = some j → ¬ F j) : Slc k w' v L bs := by
  rcases h with h | ⟨ad, cap, rfl, hl, hc⟩
  · exact .inl h
  · refine .inr ⟨ad, cap, rfl, hl, fun i hi => hb.cell (hc i hi) ?_⟩
    rw [add_block]
    exact hn (by omega) _ rfl
theorem Slc.below {k : IntKind} {w w' : World} {v : Value} {L : Nat} {bs : Nat → Int} (h : Slc k w v L bs) (hb : Below w.heap.size w w') : Slc k w' v L bs :=
  h.but (F := fun _ => False) (But.of_below hb) (fun _ _ _ h => h)
theorem Slc.own_lt {k : IntKind} {w : World} {v : Value} {L : Nat} {bs : Nat → Int} (h : Slc k w v L bs) (hL : 0 < L) (j : Nat) (hj : v.ownBlock = some j) : j < w.heap.size := by
  rcases h with ⟨rfl, rfl⟩ | ⟨ad, cap, rfl, hl, hc⟩
  · cases hj
  · injection hj with hj
    have := cell_lt (hc 0 hL)
    rw [add_block] at this
    omega
theorem Slc.len {k : IntKind} {w : World} {v : Value} {L : Nat} {bs : Nat → Int} (h : Slc k w v L bs) : ∃ a cap, v = .slice a L cap := by
  rcases h with ⟨rfl, rfl⟩ | ⟨ad, cap, rfl, hl, hc⟩
  · exact ⟨_, _, rfl⟩
  · exact ⟨_, _, rfl⟩
/-- A slice of numbers that was handed in. -/
theorem open_slc {H : Type} {enc : TypeId × Value → H} {P : Program} {w : World} {r : Reach} {b0 : Nat} {t e : TypeId} {k : IntKind} {v : Value} {d : DataW H} {ps : List MemPlace} (ht : P.underlying t = some (.slice e)) (he : P.underlying e = some (.int k)) (hc : P.cellsOf e = 1)
    (hv : Value.okWide P w r b0 t v) (h : DataW.Trod enc P w 0 (fun _ => true) true t v d ps) : ∃ (L : Nat) (bs : Nat → Int), Slc k w v L bs ∧ (∀ i, (Lit.int k (bs i)).wf = true) ∧ L ≤ maxLen := by
  obtain ⟨a, len, cap, rfl⟩ := okWide_slice ht hv
  obtain ⟨fuel, hf⟩ := h
  have h0 : ∀ q : IntKind, (Lit.int q 0).wf = true := fun q => by cases q <;> decide
  rcases open_ints ht he hc hf with ⟨hcs, _⟩ | ⟨ad, len', cap', zs, hcs, _, hl, hm, hz, _, hcell, hwf⟩
  · simp [Value.cells] at hcs
    obtain ⟨rfl, rfl, rfl⟩ := hcs
    exact ⟨0, fun _ => 0, .inl ⟨rfl, rfl⟩, fun _ => h0 _, Nat.zero_le _⟩
  · simp [Value.cells] at hcs
    obtain ⟨rfl, rfl, rfl⟩ := hcs
    rw [if_pos rfl] at hz
    refine ⟨len, fun i => zs.getD i 0, .inr ⟨ad, cap, rfl, hl, fun i hi => hcell i (by omega)⟩, fun i => ?_, Nat.le_trans hl hm⟩
    by_cases hi : i < zs.length
    · simp only [List.getD, List.getElem?_eq_getElem hi, Option.getD_some]; exact hwf _ (List.getElem_mem hi)
    · simp only [List.getD, List.getElem?_eq_none (Nat.le_of_not_lt hi), Option.getD_none]; exact h0 _
theorem Slc.congr {k : IntKind} {w : World} {v : Value} {L : Nat} {bs cs : Nat → Int} (h : Slc k w v L bs) (e : ∀ i, i < L → bs i = cs i) : Slc k w v L cs := by
  rcases h with h | ⟨ad, cap, rfl, hl, hc⟩
  · exact .inl h
  · exact .inr ⟨ad, cap, rfl, hl, fun i hi => by rw [hc i hi, e i hi]⟩
/-- the string of these bytes -/
def strOf (L : Nat) (bs : Nat → Int) : ByteArray := ⟨((List.range L).map fun i => UInt8.ofNat (bs i).toNat).toArray⟩
theorem strOf_congr {L : Nat} {bs cs : Nat → Int} (e : ∀ i, i < L → bs i = cs i) : strOf L bs = strOf L cs := by
  unfold strOf
  congr 2
  apply List.map_congr_left
  intro i hi
  rw [e i (by simpa using hi)]
theorem Slc.str {w : World} {v : Value} {L : Nat} {bs : Nat → Int} (h : Slc .u8 w v L bs) (h8 : ∀ i, i < L → 0 ≤ bs i ∧ bs i < 256) : (convert 22 9 v).run Try.prog w = .ok (.string (strOf L bs)) w := by
  rcases h with ⟨rfl, rfl⟩ | ⟨ad, cap, rfl, hl, hc⟩
  · rw [run_convert_bytes_string w 22 9 5 none 0 0 Try.underlying22 Try.underlying5 Try.underlying9]
    simp [Conv.bytesToString]
    rfl
  · have := run_convert_bytes_back (P := Try.prog) w 22 9 5 ad cap ((List.range L).map fun i => UInt8.ofNat (bs i).toNat) Try.underlying22 Try.underlying5 Try.underlying9 (fun j hj => by
      have hj' : j < L := by simpa using hj
      rw [hc j hj']
      have := h8 j hj'
      simp
      omega)
    simpa [strOf] using this
def setP (pg : Int → Bool) (a : Int) : Int → Bool := fun q => q == a / 4096 * 4096 || pg q
def writeP (pg : Int → Bool) (a : Int) : Nat → Int → Bool
  | 0 => pg
  | k + 1 => setP (writeP pg a k) (place a k)
/-- the pages that were set, rising -/
def IsPages (pg : Int → Bool) (l : List Int) : Prop := l.Pairwise (· < ·) ∧ ∀ q, q ∈ l ↔ pg q = true
end Go.Proofs.Ytlhfpfiehgcciaa
