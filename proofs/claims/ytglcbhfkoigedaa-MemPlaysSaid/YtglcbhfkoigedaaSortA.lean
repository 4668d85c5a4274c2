/- Rows of numbers that are sorted (package slices at []uint32): the words, Less, insertion sort. -/
import Derived.Test.YtglcbhfkoigedaaCollect
import Derived.Sort.AssemblyPlain
import Derived.Sort.Row
import Derived.BigGuard
import Derived.BigCall
import Derived.BigQuiet
import Derived.CellFam
import Derived.Deep.Draws
import Derived.Deep.QuietTactic
import Derived.Deep.DeepCutAuto
namespace Go.Proofs.Ytglcbhfkoigedaa
open Go.ChangeShapes Go.WideShapes Go.ChangeAt Go.RowKit Go.Maps Go.Deep Go.Sort

/-- number t of a row -/
def gt (d : Array Int) (t : Nat) : Int := d[t]!
theorem gt_swp (d : Array Int) (i j t : Nat) (hi : i < d.size) (hj : j < d.size) : gt (swp d i j) t = if t = j then gt d i else if t = i then gt d j else gt d t := by
  unfold gt swp
  by_cases h : t = j
  · subst h
    rw [if_pos rfl, getElem!_set_same _ _ _ (by simpa using hj)]
  · rw [if_neg h, getElem!_set_other _ _ _ _ h]
    by_cases h2 : t = i
    · subst h2
      rw [if_pos rfl, getElem!_set_same _ _ _ hi]
    · rw [if_neg h2, getElem!_set_other _ _ _ _ h2]
/-- Block b of w holds the row d; all other blocks are as they were in W. -/
structure Row (W w : World) (b : Nat) (d : Array Int) : Prop where
  cell : ∀ t, t < d.size → w.cell? ⟨b, t, none⟩ = some (.int .u32 (gt d t))
  fro : ∀ t, w.frozen? ⟨b, t, none⟩ = false
  but : But (· = b) W w
theorem Row.drew {W w : World} {b : Nat} {d : Array Int} (h : Row W w b d) : Row W w.drew b d := ⟨h.cell, h.fro, h.but.drew⟩
theorem Row.draws {W w : World} {b : Nat} {d : Array Int} (h : Row W w b d) : ∀ n, Row W (w.drewN n) b d
  | 0 => h
  | n + 1 => (h.draws n).drew
theorem Row.swap {W w : World} {b : Nat} {d : Array Int} (h : Row W w b d) (i j : Nat) (hi : i < d.size) (hj : j < d.size) :
    Row W ((w.setCell ⟨b, i, none⟩ (.int .u32 (gt d j))).setCell ⟨b, j, none⟩ (.int .u32 (gt d i))) b (swp d i j) := by
  refine ⟨fun t ht => ?_, fun t => by rw [World.frozen?_setCell, World.frozen?_setCell]; exact h.fro t, (h.but.setCell (a := ⟨b, i, none⟩) (fun _ => rfl) _).setCell (a := ⟨b, j, none⟩) (fun _ => rfl) _⟩
  rw [size_swp] at ht
  rw [gt_swp d i j t hi hj]
  by_cases e : t = j
  · subst e
    rw [if_pos rfl]
    by_cases e2 : t = i
    · subst e2
      exact World.cell?_setCell_same _ _ _ (World.cell?_setCell_same _ _ _ (h.cell t ht))
    · exact World.cell?_setCell_same _ _ _ ((World.cell?_setCell_other _ _ _ _ (by simp; try omega)).trans (h.cell t ht))
  · rw [if_neg e, World.cell?_setCell_other _ _ _ _ (by simp; try omega)]
    by_cases e2 : t = i
    · subst e2
      rw [if_pos rfl]
      exact World.cell?_setCell_same _ _ _ (h.cell t ht)
    · rw [if_neg e2, World.cell?_setCell_other _ _ _ _ (by simp; try omega)]
      exact h.cell t ht
theorem Row.go {W w w2 : World} {b : Nat} {d : Array Int} (h : Row W w b d) (k : Row w w2 b d) : Row W w2 b d := ⟨k.cell, k.fro, h.but.trans k.but (fun _ _ e => e)⟩
/-- what a call that sorts a part leaves -/
theorem Row.then_ {W w w2 : World} {b : Nat} {d d2 : Array Int} (h : Row W w b d) (k : Row w w2 b d2) : Row W w2 b d2 := ⟨k.cell, k.fro, h.but.trans k.but (fun _ _ e => e)⟩
theorem Row.self {W w : World} {b : Nat} {d : Array Int} (h : Row W w b d) : Row w w b d := ⟨h.cell, h.fro, But.refl _ _⟩
/-- less -/
def ls (d : Array Int) (i j : Nat) : Bool := decide (gt d i < gt d j)
theorem ls_eq (d : Array Int) (i j : Nat) : ltInt d[i]! d[j]! = ls d i j := rfl
theorem isNaN_any (x : Int) (w : World) : Calls Try.prog 46 #[.int .u32 x] w fun e w' => e = .returned (.bool false) ∧ w' = w := by
  go_enter Try.func46, Try.ntmps46
  go_wp2
  go_ret
  exact ⟨by simp, rfl⟩
theorem less_any (x y : Int) (w : World) : Calls Try.prog 36 #[.int .u32 x, .int .u32 y] w fun e w' => e = .returned (.bool (decide (x < y))) ∧ w' = w := by
  go_enter Try.func36, Try.ntmps36
  go_wp2_with (go_at_call 46; refine (isNaN_any _ _).mono ?_; rintro e w' ⟨rfl, rfl⟩)
  go_ret
  exact ⟨rfl, rfl⟩

/-! insertion sort -/
theorem insI_go (a j : Nat) (d : Array Int) (hj : a < j) (hl : ls d j (j - 1) = true) : insInner ltInt a j d = insInner ltInt a (j - 1) (swp d j (j - 1)) := by
  obtain ⟨k, rfl⟩ : ∃ k, j = k + 1 := ⟨j - 1, by omega⟩
  rw [insInner, ls_eq]
  simp only [Nat.add_sub_cancel] at hl ⊢
  rw [hl, if_pos (by simpa using hj)]
theorem insI_stop (a j : Nat) (d : Array Int) (h : j ≤ a ∨ ls d j (j - 1) = false) : insInner ltInt a j d = d := by
  cases j with
  | zero => rw [insInner]
  | succ k =>
    rw [insInner, ls_eq]
    simp only [Nat.add_sub_cancel] at h
    rw [if_neg]
    intro h2
    simp at h2
    rcases h with h | h
    · omega
    · rw [h] at h2; exact absurd h2.2 (by simp)
theorem insO_go (a b i : Nat) (d : Array Int) (h : i < b) : insOuter ltInt a b i d = insOuter ltInt a b (i + 1) (insInner ltInt a i d) := by
  rw [insOuter, if_pos h]
set_option maxRecDepth 100000 in
set_option maxHeartbeats 2000000 in
theorem ins_any (b cap lo hi : Nat) (d : Array Int) (W w : World) (hr : Row W w b d) (h1 : lo ≤ hi) (h2 : hi ≤ d.size) (h3 : d.size < 4611686018427387904) :
    Calls Try.prog 30 #[.slice (some ⟨b, 0, none⟩) d.size cap, .int .i64 lo, .int .i64 hi] w fun e w' => e = .returned (.tuple #[]) ∧ Row W w' b (insertionSort ltInt d lo hi) := by
  obtain ⟨n, hn⟩ : ∃ n, d.size = n := ⟨_, rfl⟩
  rw [hn] at h2 h3 ⊢
  go_enter Try.func30, Try.ntmps30
  go_wp2
  go_loopw [6] (fun v wr => ∃ (i : Nat) (dk : Array Int), v = .int .i64 i ∧ lo < i ∧ i ≤ hi + 1 ∧ dk.size = n ∧ Row W wr b dk ∧ insOuter ltInt lo hi i dk = insOuter ltInt lo hi (lo + 1) d) (fun v _ => hi + 1 - (intOf v).toNat)
  case atStart => exact ⟨lo + 1, d, by go_num, by omega, by omega, hn, hr, rfl⟩
  case round =>
    obtain ⟨i, dk, rfl, hi1, hi2, hsk, hrk, hO⟩ := hrel
    have HO := Lib.hid hO
    clear hO hr
    by_cases hih : i < hi
    · have hd : decide ((i : Int) < (hi : Int)) = true := decide_eq_true (by omega)
      go_wp2
      go_loopw [7] (fun v wr2 => ∃ (j : Nat) (dj : Array Int), v = .int .i64 j ∧ lo ≤ j ∧ j ≤ i ∧ dj.size = n ∧ Row W wr2 b dj ∧ insInner ltInt lo j dj = insInner ltInt lo i dk) (fun v _ => (intOf v).toNat)
      case atStart => exact ⟨i, dk, rfl, by omega, Nat.le_refl _, hsk, hrk, rfl⟩
      case round =>
        obtain ⟨j, dj, rfl, hj1, hj2, hsj, hrj, hI⟩ := hrel
        have HI := Lib.hid hI
        have hcell : ∀ t, t < n → wr.cell? ⟨b, t, none⟩ = some (.int .u32 (gt dj t)) := fun t ht => hrj.cell t (by omega)
        have hfro := hrj.fro
        have HR := Lib.hid hrj
        clear hI hrj hrk
        by_cases hja : lo < j
        · have hd2 : decide ((lo : Int) < (j : Int)) = true := decide_eq_true (by omega)
          have i0 : (0 : Int) ≤ (j : Int) := by omega
          have i1 : (j : Int) < (n : Int) := by omega
          have w1 : IntKind.i64.wrap ((j : Int) - 1) = ((j - 1 : Nat) : Int) := by rw [IntKind.wrap_i64]; omega
          have i2 : (0 : Int) ≤ ((j - 1 : Nat) : Int) := by omega
          have i3 : ((j - 1 : Nat) : Int) < (n : Int) := by omega
          have c0 := hcell j (by omega)
          have c1 := hcell (j - 1) (by omega)
          go_wp2
          go_quiet (first | (go_at_call 36; refine Calls.quiet_of_same (less_any _ _ _)))
          have hr2 := HR.out.draws nq
          generalize wr.drewN nq = w3 at *
          clear c0 c1 hcell hfro
          have c0 := hr2.cell j (by omega)
          have c1 := hr2.cell (j - 1) (by omega)
          have f0 := hr2.fro j
          have f1 := hr2.fro (j - 1)
          have HR2 := Lib.hid hr2
          clear hr2
          by_cases hl : gt dj j < gt dj (j - 1)
          · have hl' : decide (gt dj j < gt dj (j - 1)) = true := decide_eq_true hl
            go_wp2
            go_region
            all_goals go_wp2
            go_roundw
            case rel => exact ⟨j - 1, swp dj j (j - 1), rfl, by omega, by omega, by rw [size_swp]; exact hsj, HR2.out.drew.swap j (j - 1) (by omega) (by omega), by rw [← HI.out, insI_go lo j dj hja hl']⟩
            case measure => simp [intOf]; omega
          · have hl' : decide (gt dj j < gt dj (j - 1)) = false := decide_eq_false hl
            go_wp2
            go_roundw
            case rel => exact ⟨i + 1, dj, by go_num, by omega, by omega, hsj, HR2.out, by rw [← HO.out, insO_go _ _ _ _ hih, ← HI.out, insI_stop _ _ _ (.inr hl')]⟩
            case measure => simp [intOf]; omega
        · have hd2 : decide ((lo : Int) < (j : Int)) = false := decide_eq_false (by omega)
          go_wp2
          go_quiet (first | (go_at_call 36; refine Calls.quiet_of_same (less_any _ _ _)))
          go_wp2
          go_roundw
          case rel => exact ⟨i + 1, dj, by go_num, by omega, by omega, hsj, HR.out.draws nq, by rw [← HO.out, insO_go _ _ _ _ hih, ← HI.out, insI_stop _ _ _ (.inl (by omega))]⟩
          case measure => simp [intOf]; omega
    · have hd : decide ((i : Int) < (hi : Int)) = false := decide_eq_false (by omega)
      have HR := Lib.hid hrk
      clear hrk
      go_wp2
      go_end0
      exact ⟨rfl, by unfold insertionSort; rw [← HO.out, insOuter, if_neg hih]; exact HR.out⟩
end Go.Proofs.Ytglcbhfkoigedaa
