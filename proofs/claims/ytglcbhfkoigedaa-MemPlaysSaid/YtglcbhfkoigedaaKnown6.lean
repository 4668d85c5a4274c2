/- The statements' own first look at memory. -/
import Derived.Test.YtglcbhfkoigedaaMemIn
namespace Go.Proofs.Ytglcbhfkoigedaa
open Go.ChangeShapes Go.WideShapes Go.ChangeAt Go.RowKit

theorem sorted_unique : ∀ (l m : List Int), l.Pairwise (· < ·) → m.Pairwise (· < ·) → (∀ q, q ∈ l ↔ q ∈ m) → l = m
  | [], [], _, _, _ => rfl
  | [], b :: m, _, _, h => by have := (h b).2 (by simp); simp at this
  | a :: l, [], _, _, h => by have := (h a).1 (by simp); simp at this
  | a :: l, b :: m, hl, hm, h => by
    rw [List.pairwise_cons] at hl hm
    have h1 := (h a).1 (by simp)
    have h2 := (h b).2 (by simp)
    have e : a = b := by
      rw [List.mem_cons] at h1 h2
      rcases h1 with h1 | h1
      · exact h1
      · rcases h2 with h2 | h2
        · exact h2.symm
        · have := hm.1 a h1; have := hl.1 b h2; omega
    subst e
    congr 1
    refine sorted_unique l m hl.2 hm.2 fun q => ?_
    have hq := h q
    rw [List.mem_cons, List.mem_cons] at hq
    constructor
    · intro k
      rcases hq.1 (.inr k) with rfl | r
      · have := hl.1 q k; omega
      · exact r
    · intro k
      rcases hq.2 (.inr k) with rfl | r
      · have := hm.1 q k; omega
      · exact r
theorem known_pages (l : List Int) (h : IsPages (writeP (setP (fun _ => false) 5) 4294967295 2) l) : l = [0, 4294963200] := by
  refine sorted_unique l _ h.1 (by simp) fun q => ?_
  rw [h.2 q]
  simp [writeP, setP, place]
  omega
set_option maxHeartbeats 1000000 in
theorem known6_any (w : World) : Calls Try.prog 6 #[] w fun e w' => e = .returned (.bool true) ∧ Below w.heap.size w w' := by
  go_enter Try.func6, Try.ntmps6
  go_wp2_with fail
  refine (min_new (w0 := w) _ (Below.refl _ _)).mono ?_
  rintro e w1 ⟨p, F, rfl, M1, _, _⟩
  go_wp2_with fail
  refine (min_set M1 5 1 (by decide) (by decide) (by decide) (by decide)).mono ?_
  rintro e w2 ⟨F2, rfl, M2, _, _⟩
  clear M1
  go_wp2_with fail
  have M3 := M2.alloc (.cells #[.int .u8 7, .int .u8 8] 5)
  have hs : Slc .u8 (w2.alloc (.cells #[.int .u8 7, .int .u8 8] 5)) (.slice (some ⟨w2.heap.size, 0, none⟩) 2 2) 2 (fun i => if i = 0 then 7 else 8) :=
    .inr ⟨_, _, rfl, by omega, fun i hi => by obtain rfl | rfl : i = 0 ∨ i = 1 := by omega
                                              all_goals simp [Addr.add]⟩
  refine (min_write M3 4294967295 _ 2 _ (by decide) (by decide) (by decide) (fun i => by split <;> omega) hs (fun _ k hk => ?_)).mono ?_
  · injection hk with hk
    subst hk
    intro h
    have := M2.mem.lt _ h
    simp at this
  rintro e w3 ⟨F3, rfl, M4, _, _⟩
  clear M2 M3 hs
  go_wp2_with fail
  refine (min_pages M4).mono ?_
  rintro e w4 ⟨v, l, rfl, hs, hp, M5, _⟩
  clear M4
  obtain rfl := known_pages l hp
  clear hp
  rcases hs with ⟨_, h⟩ | ⟨ad, cap, rfl, hl, hc⟩
  · simp at h
  have c0 := hc 0 (by simp)
  have c1 := hc 1 (by simp)
  clear hc hl
  simp only [List.length_cons, List.length_nil] at c0 c1 ⊢
  go_wp2_with fail
  refine (min_get M5 5 (by decide) (by decide)).mono ?_
  rintro e w5 ⟨rfl, M6, hb5⟩
  have d0 := cell_call hb5 c0
  have d1 := cell_call hb5 c1
  clear M5 c0 c1
  rw [show writeG (setG (fun _ => 0) 5 1) 4294967295 (fun i => if i = 0 then 7 else 8) 2 5 = 1 from by decide]
  go_wp2_with fail
  refine (min_get M6 0 (by decide) (by decide)).mono ?_
  rintro e w6 ⟨rfl, M7, hb6⟩
  have e0 := cell_call hb6 d0
  have e1 := cell_call hb6 d1
  clear M6 d0 d1
  rw [show writeG (setG (fun _ => 0) 5 1) 4294967295 (fun i => if i = 0 then 7 else 8) 2 0 = 8 from by decide]
  go_wp2_with fail
  refine (min_get M7 6 (by decide) (by decide)).mono ?_
  rintro e w7 ⟨rfl, M8, hb7⟩
  have f0 := cell_call hb7 e0
  have f1 := cell_call hb7 e1
  clear M7 e0 e1
  rw [show writeG (setG (fun _ => 0) 5 1) 4294967295 (fun i => if i = 0 then 7 else 8) 2 6 = 0 from by decide]
  have g0 : w7.cell? ad = some (.int .u32 0) := by simpa [Addr.add] using f0
  have g1 : w7.cell? ⟨ad.block, ad.off + 1, none⟩ = some (.int .u32 4294963200) := by simpa [Addr.add] using f1
  go_wp2_with fail
  go_ret
  exact ⟨rfl, M8.low⟩
end Go.Proofs.Ytglcbhfkoigedaa
