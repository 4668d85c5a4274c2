/- What sorted parts make of a row: numbers only. -/
import Derived.Test.YtkmoefgoolhegaaSortI
namespace Go.Proofs.Ytkmoefgoolhegaa
open Go.Sort

def SortF (a b : Nat) (d : Array Int) : Prop := ∀ i j, a ≤ i → i < j → j < b → gt d i ≤ gt d j
def BelF (a b : Nat) (d : Array Int) : Prop := a = 0 ∨ ∀ i, a ≤ i → i < b → gt d (a - 1) ≤ gt d i
theorem sortF_of {a b : Nat} {d : Array Int} (h : SortedIn ltInt a b d) : SortF a b d := fun i j h1 h2 h3 => by
  have := h i j h1 h2 h3
  exact Int.not_lt.1 (of_decide_eq_false this)
theorem belF_to {a b : Nat} {d : Array Int} (h : BelF a b d) : Below ltInt a b d := by
  rcases h with h | h
  · exact .inl h
  · exact .inr fun i h1 h2 => decide_eq_false (Int.not_lt.2 (h i h1 h2))
theorem perm_out {a b : Nat} {d d' : Array Int} (h : PermIn a b d d') (t : Nat) (ht : t < a ∨ b ≤ t) : gt d' t = gt d t := h.2.1 t ht
theorem perm_all {a b : Nat} {d d' : Array Int} (h : PermIn a b d d') (hb : b ≤ d.size) (p : Int → Prop) (hp : ∀ t, a ≤ t → t < b → p (gt d t)) (t : Nat) (h1 : a ≤ t) (h2 : t < b) : p (gt d' t) := permIn_all d d' a b p hb h hp t h1 h2
/-- the state of a round: what is left to be sorted, and that then all is -/
structure Left (lo hi a b : Nat) (d dk : Array Int) : Prop where
  la : lo ≤ a
  ab : a ≤ b
  bh : b ≤ hi
  hs : hi ≤ d.size
  perm : PermIn lo hi d dk
  bel : BelF a b dk
  fin : ∀ d2, PermIn a b dk d2 → SortF a b d2 → SortF lo hi d2
theorem Left.size {lo hi a b : Nat} {d dk : Array Int} (h : Left lo hi a b d dk) : dk.size = d.size := h.perm.1
theorem Left.start {lo hi : Nat} {d : Array Int} (h1 : lo ≤ hi) (h2 : hi ≤ d.size) (hb : BelF lo hi d) : Left lo hi lo hi d d := ⟨Nat.le_refl _, h1, Nat.le_refl _, h2, permIn_refl _ _ _, hb, fun _ _ h => h⟩
/-- the part is permuted -/
theorem Left.turn {lo hi a b : Nat} {d dk d2 : Array Int} (h : Left lo hi a b d dk) (hp : PermIn a b dk d2) : Left lo hi a b d d2 := by
  have hz := h.size
  have hb := h.bh
  have hs := h.hs
  refine ⟨h.la, h.ab, h.bh, h.hs, permIn_trans _ _ _ _ _ h.perm (permIn_mono _ _ _ _ _ _ h.la h.bh (by omega) hp), ?_, fun d3 h3 s3 => h.fin d3 (permIn_trans _ _ _ _ _ hp h3) s3⟩
  rcases h.bel with h0 | h0
  · exact .inl h0
  · by_cases ha : a = 0
    · exact .inl ha
    · refine .inr fun i i0 i1 => ?_
      rw [perm_out hp (a - 1) (by omega)]
      exact perm_all hp (by omega) (fun x => gt dk (a - 1) ≤ x) h0 i i0 i1
/-- the part is sorted -/
theorem Left.done {lo hi a b : Nat} {d dk d2 : Array Int} (h : Left lo hi a b d dk) (hp : PermIn a b dk d2) (hs : SortF a b d2) : PermIn lo hi d d2 ∧ SortF lo hi d2 := ⟨(h.turn hp).perm, h.fin d2 hp hs⟩
/-- behind the equal ones -/
theorem Left.equal {lo hi a b mid : Nat} {d dk d2 : Array Int} {P : Int} (h : Left lo hi a b d dk) (hp : PermIn a b dk d2) (h1 : a < mid) (h2 : mid ≤ b) (hm : ∀ t, a ≤ t → t < b → P ≤ gt dk t) (hl : ∀ t, a ≤ t → t < mid → gt d2 t ≤ P) (hr : ∀ t, mid ≤ t → t < b → P < gt d2 t) : Left lo hi mid b d d2 := by
  have ht := h.turn hp
  have hz := h.size
  have hz2 := ht.size
  have hb := h.bh
  have hs := h.hs
  have hm2 := perm_all hp (by omega) (fun x => P ≤ x) hm
  refine ⟨by have := h.la; omega, h2, hb, hs, ht.perm, .inr fun i i0 i1 => ?_, fun d3 h3 s3 => ht.fin d3 (permIn_mono _ _ _ _ _ _ (by omega) (Nat.le_refl _) (by omega) h3) fun i j i0 ij jb => ?_⟩
  · have := hl (mid - 1) (by omega) (by omega)
    have := hr i i0 i1
    omega
  · by_cases hj : j < mid
    · rw [perm_out h3 i (by omega), perm_out h3 j (by omega)]
      have := hl i i0 (by omega)
      have := hm2 j (by omega) jb
      omega
    · have hj2 := perm_all h3 (by omega) (fun x => P < x) hr j (by omega) jb
      by_cases hi' : i < mid
      · rw [perm_out h3 i (by omega)]
        have := hl i i0 hi'
        omega
      · exact s3 i j (by omega) ij jb
/-- the left part is sorted, the right one is left -/
theorem Left.right {lo hi a b mid : Nat} {d dk d2 d3 : Array Int} (h : Left lo hi a b d dk) (hp : PermIn a b dk d2) (h1 : a ≤ mid) (h2 : mid < b) (hl : ∀ t, a ≤ t → t < mid → gt d2 t < gt d2 mid) (hr : ∀ t, mid < t → t < b → gt d2 mid ≤ gt d2 t) (hp3 : PermIn a mid d2 d3) (hs3 : SortF a mid d3) : Left lo hi (mid + 1) b d d3 := by
  have ht := h.turn hp
  have hz := h.size
  have hz2 := ht.size
  have hb := h.bh
  have hs := h.hs
  have ht3 := ht.turn (permIn_mono _ _ _ _ _ _ (Nat.le_refl _) (Nat.le_of_lt h2) (by omega) hp3)
  have hz3 := ht3.size
  have hm3 : gt d3 mid = gt d2 mid := perm_out hp3 mid (by omega)
  have hl3 := perm_all hp3 (by omega) (fun x => x < gt d2 mid) hl
  refine ⟨by have := h.la; omega, h2, hb, hs, ht3.perm, .inr fun i i0 i1 => ?_, fun d4 h4 s4 => ht3.fin d4 (permIn_mono _ _ _ _ _ _ (by omega) (Nat.le_refl _) (by omega) h4) fun i j i0 ij jb => ?_⟩
  · rw [show mid + 1 - 1 = mid by omega, hm3, perm_out hp3 i (by omega)]
    exact hr i (by omega) i1
  · by_cases hj : j < mid + 1
    · rw [perm_out h4 i (by omega), perm_out h4 j (by omega)]
      by_cases hj2 : j = mid
      · subst hj2
        rw [hm3]
        exact Int.le_of_lt (hl3 i i0 ij)
      · exact hs3 i j i0 ij (by omega)
    · have hj2 := perm_all h4 (by omega) (fun x => gt d2 mid ≤ x) (fun t t0 t1 => by rw [perm_out hp3 t (by omega)]; exact hr t (by omega) t1) j (by omega) jb
      by_cases hi' : i < mid + 1
      · rw [perm_out h4 i (by omega)]
        by_cases hi2 : i = mid
        · subst hi2; rw [hm3]; exact hj2
        · have := hl3 i i0 (by omega)
          omega
      · exact s4 i j (by omega) ij jb
/-- the right part is sorted, the left one is left -/
theorem Left.left {lo hi a b mid : Nat} {d dk d2 d3 : Array Int} (h : Left lo hi a b d dk) (hp : PermIn a b dk d2) (h1 : a ≤ mid) (h2 : mid < b) (hl : ∀ t, a ≤ t → t < mid → gt d2 t < gt d2 mid) (hr : ∀ t, mid < t → t < b → gt d2 mid ≤ gt d2 t) (hp3 : PermIn (mid + 1) b d2 d3) (hs3 : SortF (mid + 1) b d3) : Left lo hi a mid d d3 := by
  have ht := h.turn hp
  have hz := h.size
  have hz2 := ht.size
  have hb := h.bh
  have hs := h.hs
  have ht3 := ht.turn (permIn_mono _ _ _ _ _ _ (by omega) (Nat.le_refl _) (by omega) hp3)
  have hz3 := ht3.size
  have hm3 : gt d3 mid = gt d2 mid := perm_out hp3 mid (by omega)
  have hr3 := perm_all hp3 (by omega) (fun x => gt d2 mid ≤ x) (fun t t0 t1 => hr t (by omega) t1)
  refine ⟨h.la, h1, by omega, hs, ht3.perm, ?_, fun d4 h4 s4 => ht3.fin d4 (permIn_mono _ _ _ _ _ _ (Nat.le_refl _) (by omega) (by omega) h4) fun i j i0 ij jb => ?_⟩
  · rcases ht3.bel with h0 | h0
    · exact .inl h0
    · exact .inr fun i i0 i1 => h0 i i0 (by omega)
  · by_cases hi' : i < mid
    · by_cases hj : j < mid
      · exact s4 i j i0 ij hj
      · have hi2 := perm_all h4 (by omega) (fun x => x < gt d2 mid) (fun t t0 t1 => by rw [perm_out hp3 t (by omega)]; exact hl t t0 t1) i i0 hi'
        rw [perm_out h4 j (by omega)]
        by_cases hj2 : j = mid
        · subst hj2; rw [hm3]; exact Int.le_of_lt hi2
        · have := hr3 j (by omega) jb
          omega
    · rw [perm_out h4 i (by omega), perm_out h4 j (by omega)]
      by_cases hi2 : i = mid
      · subst hi2; rw [hm3]; exact hr3 j (by omega) jb
      · exact hs3 i j (by omega) ij jb
theorem swoI : SWO ltInt := ⟨fun x => decide_eq_false (Int.lt_irrefl x), fun x y z h1 h2 => decide_eq_true (Int.lt_trans (of_decide_eq_true h1) (of_decide_eq_true h2)), fun x y z h1 h2 => decide_eq_false (by have := of_decide_eq_false h1; have := of_decide_eq_false h2; omega)⟩
end Go.Proofs.Ytkmoefgoolhegaa
