import Derived.Test.YtbbegbaaefgikaaKTM
namespace Go.Proofs.Ytbbegbaaefgikaa
section
open Go.Sort
set_option maxRecDepth 100000
def SortF (a b : Nat) (d : Array Int) : Prop := ∀ i j, a ≤ i → i < j → j < b → gt d i ≤ gt d j
def BelF (a b : Nat) (d : Array Int) : Prop := a = 0 ∨ ∀ i, a ≤ i → i < b → gt d (a - 1) ≤ gt d i
theorem perm_out {a b : Nat} {d d' : Array Int} (h : PermIn a b d d') (t : Nat) (ht : t < a ∨ b ≤ t) : gt d' t = gt d t := h.2.1 t ht
theorem perm_all {a b : Nat} {d d' : Array Int} (h : PermIn a b d d') (hb : b ≤ d.size) (p : Int → Prop) (hp : ∀ t, a ≤ t → t < b → p (gt d t)) (t : Nat) (h1 : a ≤ t) (h2 : t < b) : p (gt d' t) := permIn_all d d' a b p hb h hp t h1 h2
structure Left (lo hi a b : Nat) (d dk : Array Int) : Prop where
  la : lo ≤ a
  ab : a ≤ b
  bh : b ≤ hi
  hs : hi ≤ d.size
  perm : PermIn lo hi d dk
  bel : BelF a b dk
  fin : ∀ d2, PermIn a b dk d2 → SortF a b d2 → SortF lo hi d2
theorem Left.size {lo hi a b : Nat} {d dk : Array Int} (h : Left lo hi a b d dk) : dk.size = d.size := h.perm.1
theorem Left.turn {lo hi a b : Nat} {d dk d2 : Array Int} (h : Left lo hi a b d dk) (hp : PermIn a b dk d2) : Left lo hi a b d d2 := by
  have hz := h.size
  have hb := h.bh
  have hs := h.hs
  refine ⟨h.la, h.ab, h.bh, h.hs, permIn_trans _ _ _ _ _ h.perm (permIn_mono _ _ _ _ _ _ h.la h.bh (by omega) hp), ?_, fun d3 h3 s3 => h.fin d3 (permIn_trans _ _ _ _ _ hp h3) s3⟩
  rcases h.bel with h0 | h0
  · exact .inl h0
  · by_cases ha : a = 0
    · exact .inl ha
    · refine .inr fun i i0 i1 => ?_
      rw [perm_out hp (a - 1) (by omega)]
      exact perm_all hp (by omega) (fun x => gt dk (a - 1) ≤ x) h0 i i0 i1
theorem Left.done {lo hi a b : Nat} {d dk d2 : Array Int} (h : Left lo hi a b d dk) (hp : PermIn a b dk d2) (hs : SortF a b d2) : PermIn lo hi d d2 ∧ SortF lo hi d2 := ⟨(h.turn hp).perm, h.fin d2 hp hs⟩
theorem Left.left {lo hi a b mid : Nat} {d dk d2 d3 : Array Int} (h : Left lo hi a b d dk) (hp : PermIn a b dk d2) (h1 : a ≤ mid) (h2 : mid < b) (hl : ∀ t, a ≤ t → t < mid → gt d2 t < gt d2 mid) (hr : ∀ t, mid < t → t < b → gt d2 mid ≤ gt d2 t) (hp3 : PermIn (mid + 1) b d2 d3) (hs3 : SortF (mid + 1) b d3) : Left lo hi a mid d d3 := by
  have ht := h.turn hp
  have hz := h.size
  have hz2 := ht.size
  have hb := h.bh
  have hs := h.hs
  have ht3 := ht.turn (permIn_mono _ _ _ _ _ _ (by omega) (Nat.le_refl _) (by omega) hp3)
  have hz3 := ht3.size
  have hm3 : gt d3 mid = gt d2 mid := perm_out hp3 mid (by omega)
  have hr3 := perm_all hp3 (by omega) (fun x => gt d2 mid ≤ x) (fun t t0 t1 => hr t (by omega) t1)
  refine ⟨h.la, h1, by omega, hs, ht3.perm, ?_, fun d4 h4 s4 => ht3.fin d4 (permIn_mono _ _ _ _ _ _ (Nat.le_refl _) (by omega) (by omega) h4) fun i j i0 ij jb => ?_⟩
  · rcases ht3.bel with h0 | h0
    · exact .inl h0
    · exact .inr fun i i0 i1 => h0 i i0 (by omega)
  · by_cases hi' : i < mid
    · by_cases hj : j < mid
      · exact s4 i j i0 ij hj
      · have hi2 := perm_all h4 (by omega) (fun x => x < gt d2 mid) (fun t t0 t1 => by rw [perm_out hp3 t (by omega)]; exact hl t t0 t1) i i0 hi'
        rw [perm_out h4 j (by omega)]
        by_cases hj2 : j = mid
        · subst hj2; rw [hm3]; exact Int.le_of_lt hi2
        · have := hr3 j (by omega) jb
          omega
    · rw [perm_out h4 i (by omega), perm_out h4 j (by omega)]
      by_cases hi2 : i = mid
      · subst hi2; rw [hm3]; exact hr3 j (by omega) jb
      · exact hs3 i j (by omega) ij jb
end
end Go.Proofs.Ytbbegbaaefgikaa
