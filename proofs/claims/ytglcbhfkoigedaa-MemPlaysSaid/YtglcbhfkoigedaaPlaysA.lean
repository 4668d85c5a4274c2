/- Helps of MemPlays: rising rows of pages; a number's place; two rows held against one another. -/
import Derived.Test.YtglcbhfkoigedaaKnown6
import Derived.Test.YtglcbhfkoigedaaMemPagesW
import Derived.Deep.RegionLawGrows
import Derived.Deep.AppendLies
import Derived.Deep.QuietTactic
import Derived.BigQuiet
import Derived.OneCell
import Derived.Maps.AppendAt
namespace Go.Proofs.Ytglcbhfkoigedaa
open Go.ChangeShapes Go.WideShapes Go.ChangeAt Go.RowKit

/-- the pages of these places -/
def pgsL (l : List Int) : Int → Bool := fun q => l.any fun a => q == a / 4096 * 4096
theorem pgsL_nil : pgsL [] = fun _ => false := rfl
theorem pgsL_snoc (l : List Int) (a : Int) : pgsL (l ++ [a]) = setP (pgsL l) a := by
  funext q
  unfold pgsL setP
  rw [List.any_append, Bool.or_comm]
  simp
/-- p among these, at its place -/
def ins (l : List Int) (k : Nat) (p : Int) : List Int := l.take k ++ p :: l.drop k
theorem getD_lt {l : List Int} {j : Nat} (h : j < l.length) : l.getD j 0 = l[j] := by simp [List.getD, List.getElem?_eq_getElem h]
theorem ins_rises (l : List Int) (k : Nat) (p : Int) (h : l.Pairwise (· < ·)) (h1 : ∀ j, j < k → j < l.length → l.getD j 0 < p) (h2 : k < l.length → p < l.getD k 0) : (ins l k p).Pairwise (· < ·) := by
  have hg := List.pairwise_iff_getElem.1 h
  have ht : ∀ a ∈ l.take k, a < p := by
    intro a ha
    obtain ⟨j, hj, e⟩ := List.getElem_of_mem ha
    rw [List.length_take] at hj
    rw [List.getElem_take] at e
    have := h1 j (by omega) (by omega)
    rw [getD_lt (by omega)] at this
    omega
  have hd : ∀ a ∈ l.drop k, p < a := by
    intro a ha
    obtain ⟨j, hj, e⟩ := List.getElem_of_mem ha
    rw [List.length_drop] at hj
    rw [List.getElem_drop] at e
    have h3 := h2 (by omega)
    rw [getD_lt (by omega)] at h3
    by_cases hj0 : j = 0
    · subst hj0; simpa [← e] using h3
    · have := hg k (k + j) (by omega) (by omega) (by omega)
      omega
  unfold ins
  rw [List.pairwise_append, List.pairwise_cons]
  refine ⟨h.sublist (List.take_sublist _ _), ⟨hd, h.sublist (List.drop_sublist _ _)⟩, fun a ha b hb => ?_⟩
  rw [List.mem_cons] at hb
  rcases hb with rfl | hb
  · exact ht a ha
  · have := ht a ha; have := hd b hb; omega
theorem ins_mem (l : List Int) (k : Nat) (p q : Int) : q ∈ ins l k p ↔ q = p ∨ q ∈ l := by
  unfold ins
  rw [List.mem_append, List.mem_cons]
  have := List.take_append_drop k l
  constructor
  · rintro (h | h | h)
    · exact .inr (List.mem_of_mem_take h)
    · exact .inl h
    · exact .inr (List.mem_of_mem_drop h)
  · rintro (h | h)
    · exact .inr (.inl h)
    · rw [← this, List.mem_append] at h
      rcases h with h | h
      · exact .inl h
      · exact .inr (.inr h)
theorem ins_len (l : List Int) (k : Nat) (p : Int) : (ins l k p).length = l.length + 1 := by
  unfold ins
  rw [List.length_append, List.length_cons, ← Nat.add_assoc, ← List.length_append, List.take_append_drop]
theorem isPages_nil : IsPages (fun _ => false) [] := ⟨List.Pairwise.nil, fun q => by simp⟩
/-- one page more -/
theorem isPages_ins {pg : Int → Bool} {l : List Int} (h : IsPages pg l) (k : Nat) (a : Int) (h1 : ∀ j, j < k → j < l.length → l.getD j 0 < a / 4096 * 4096) (h2 : k < l.length → a / 4096 * 4096 < l.getD k 0) : IsPages (setP pg a) (ins l k (a / 4096 * 4096)) := by
  refine ⟨ins_rises l k _ h.1 h1 h2, fun q => ?_⟩
  rw [ins_mem]
  unfold setP
  rw [Bool.or_eq_true, beq_iff_eq, h.2 q]
theorem isPages_has {pg : Int → Bool} {l : List Int} (h : IsPages pg l) (k : Nat) (a : Int) (hk : k < l.length) (h2 : l.getD k 0 = a / 4096 * 4096) : IsPages (setP pg a) l := by
  refine ⟨h.1, fun q => ?_⟩
  unfold setP
  rw [Bool.or_eq_true, beq_iff_eq, ← h.2 q]
  constructor
  · exact .inr
  · rintro (rfl | h3)
    · rw [← h2, getD_lt hk]; exact List.getElem_mem hk
    · exact h3
theorem isPages_same {pg : Int → Bool} {l m : List Int} (h : IsPages pg l) (h' : IsPages pg m) : l = m := sorted_unique l m h.1 h'.1 fun q => (h.2 q).trans (h'.2 q).symm

/-- a number's place among n -/
theorem place_any (k : Int) (n : Nat) (n0 : 0 < n) (n1 : n < 1000000000) (k0 : -9223372036854775808 ≤ k) (k1 : k ≤ 9223372036854775807) (w : World) : Calls Try.prog 9 #[.int .i64 k, .int .i64 (n : Int)] w fun e w' => e = .returned (.int .i64 (k % n)) ∧ w = w' := by
  obtain ⟨t, ht⟩ : ∃ t, t = k.tmod n := ⟨_, rfl⟩
  have h1 : -(n : Int) < t ∧ t < n ∧ (0 ≤ t → t = k % n) ∧ (t < 0 → t + n = k % n) := by
    have m0 := Int.emod_nonneg k (show (n : Int) ≠ 0 by omega)
    have m1 := Int.emod_lt_of_pos k (show (0 : Int) < n by omega)
    by_cases hk : 0 ≤ k
    · rw [ht, Int.tmod_eq_emod_of_nonneg hk]; omega
    · have h2 : (-k).tmod n = (-k) % n := Int.tmod_eq_emod_of_nonneg (by omega)
      have h3 : (-k).tmod n = -(k.tmod n) := Int.neg_tmod k n
      have h4 := Int.emod_nonneg (-k) (show (n : Int) ≠ 0 by omega)
      have h5 := Int.emod_lt_of_pos (-k) (show (0 : Int) < n by omega)
      have h6 : (t = 0 ∧ k % n = 0) ∨ t + n = k % n := by
        have e1 : t = -((-k) % n) := by omega
        have e2 : (k % n = 0 ∧ (-k) % n = 0) ∨ (-k) % n = n - k % n := by
          have a1 := Int.mul_ediv_add_emod k n
          have a2 := Int.mul_ediv_add_emod (-k) n
          have a3 : (n : Int) ∣ (k % n + (-k) % n) := ⟨-(k / n) - (-k) / n, by rw [Int.mul_sub, Int.mul_neg]; omega⟩
          obtain ⟨c, hc⟩ := a3
          have c0 : c = 0 ∨ c = 1 := by
            rcases Int.lt_or_le c 0 with h | h
            · have := Int.mul_lt_mul_of_pos_left h (show (0 : Int) < n by omega); omega
            · rcases Int.lt_or_le c 2 with h' | h'
              · omega
              · have := Int.mul_le_mul_of_nonneg_left h' (show (0 : Int) ≤ n by omega); omega
          rcases c0 with rfl | rfl <;> simp at hc <;> omega
        omega
      omega
  obtain ⟨t0, t1, t2, t3⟩ := h1
  have hn0 : ((n : Int) == 0) = false := by simp; omega
  by_cases hn : t < 0
  · have h3 := Lib.hid (t3 hn)
    have ht' := Lib.hid ht
    have hd : decide (k.tmod n < 0) = true := by rw [← ht]; exact decide_eq_true hn
    have hb1 : -1000000000 < k.tmod n := by omega
    have hb2 : k.tmod n < 1000000000 := by omega
    clear t2 t3 ht
    go_enter Try.func9, Try.ntmps9
    go_wp2
    go_ret
    exact ⟨by rw [← h3.out, ht'.out]; rfl, rfl⟩
  · have h3 := Lib.hid (t2 (by omega))
    have ht' := Lib.hid ht
    have hd : decide (k.tmod n < 0) = false := by rw [← ht]; exact decide_eq_false hn
    clear t2 t3 ht
    go_enter Try.func9, Try.ntmps9
    go_wp2
    go_ret
    exact ⟨by rw [← h3.out, ht'.out]; rfl, rfl⟩
/-- two rows that are alike -/
theorem words_any (u v : Value) (n : Nat) (f : Nat → Int) (hn : n < 1000000000) (w : World) (hu : Slc .u32 w u n f) (hv : Slc .u32 w v n f) :
    Calls Try.prog 16 #[u, v] w fun e w' => e = .returned (.bool true) ∧ Below w.heap.size w w' := by
  obtain ⟨A, ca, rfl⟩ := hu.len
  obtain ⟨B, cb, rfl⟩ := hv.len
  have hu' : ∀ i, i < n → ∃ ad, A = some ad ∧ w.cell? (ad.add i) = some (.int .u32 (f i)) := fun i hi => by
    rcases hu with ⟨_, h⟩ | ⟨ad, c, he, _, hc⟩
    · omega
    · injection he with he _ _; exact ⟨ad, he, hc i hi⟩
  have hv' : ∀ i, i < n → ∃ ad, B = some ad ∧ w.cell? (ad.add i) = some (.int .u32 (f i)) := fun i hi => by
    rcases hv with ⟨_, h⟩ | ⟨ad, c, he, _, hc⟩
    · omega
    · injection he with he _ _; exact ⟨ad, he, hc i hi⟩
  have HU := Lib.hid hu'
  have HV := Lib.hid hv'
  clear hu hv hu' hv'
  go_enter Try.func16, Try.ntmps16
  go_wp2
  go_loopw [5] (fun x wr => ∃ i : Nat, i ≤ n ∧ x = .int .i64 i ∧ ∃ k, wr = w.drewN k) (fun x _ => n - (intOf x).toNat)
  case atStart => exact ⟨0, by omega, rfl, 0, rfl⟩
  case round =>
    obtain ⟨i, hi, rfl, k, rfl⟩ := hrel
    by_cases hlt : i < n
    · obtain ⟨ad, hA, hca⟩ := HU.out i hlt
      obtain ⟨bd, hB, hcb⟩ := HV.out i hlt
      subst hA; subst hB
      have hd : decide ((i : Int) < (n : Int)) = true := decide_eq_true (by omega)
      have hi' : (i : Int) < n := by omega
      go_wp2
      go_quiet (fail)
      go_wp2
      exact ⟨⟨i + 1, by omega, by go_num, _, rfl⟩, by simp [intOf]; omega⟩
    · obtain rfl : i = n := by omega
      have hd : decide ((i : Int) < (i : Int)) = false := by simp
      go_wp2
      go_ret
      exact ⟨rfl, below_drewN (Below.refl _ _) _⟩
end Go.Proofs.Ytglcbhfkoigedaa
