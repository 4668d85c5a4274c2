/- Pages of the landed memory. -/
import Derived.Test.YtglcbhfkoigedaaPagesA
namespace Go.Proofs.Ytglcbhfkoigedaa
open Go.ChangeShapes Go.WideShapes Go.ChangeAt Go.RowKit Go.Maps Go.Deep Go.Sort Go.Shelf

theorem sorted_any (g : Nat) (lb : Array Value) (eg : ∀ args w, (callFunc g args).run Try.prog w = .ok (.enter g args) w) (D : DataW Unit) (hD : Maps.size D < 2147483648) (w : World)
    (hseq : SeqStopsK Fence.wide 2 Try.prog g lb (fun x : Int => #[Value.int .u32 x]) KeepsWalks (Keyful D) (fun _ => True) (Maps.size D) w) :
    Calls Try.prog 22 #[.func (.func g) #[] lb] w fun e w' => ∃ (v : Value) (l : List Int), e = .returned v ∧ Slc .u32 w' v l.length (fun i => l.getD i 0) ∧ (l.Pairwise (· < ·) ∧ ∀ x, x ∈ l ↔ Maps.has D (.int .u32 x) = true) ∧ Below w.heap.size w w' := by
  have hc := (callsIn_wide (n := 4)).1 (collect_in 4 (Nat.le_refl _) g lb eg (Keyful D) (Maps.size D) (by unfold maxLen; omega) (by omega) w hseq)
  go_enter Try.func22, Try.ntmps22
  go_wp2_with fail
  refine hc.mono ?_
  rintro e w1 ⟨v, ss, rfl, hK, hrow, hnil, hb⟩
  by_cases hne : ss = []
  · subst hne
    obtain rfl := hnil.2 rfl
    clear hnil hrow hc hseq
    go_wp2_with (go_at_call 25; refine (sort_nil _).mono ?_; rintro e w2 ⟨rfl, hw2⟩; subst hw2)
    go_ret
    exact ⟨_, [], rfl, .inl ⟨rfl, rfl⟩, ⟨List.Pairwise.nil, hK.2.1⟩, hb⟩
  · obtain ⟨gb, cap, rfl, hcap, hgb, hr⟩ := row_own hrow hne
    have hsz : ss.toArray.size = ss.length := by simp
    have hs := sort_any cap gb ss.toArray w1 w1 hr (by rw [hsz]; have := hK.2.2; omega)
    rw [hsz] at hs
    have HK := Lib.hid hK
    have HB := Lib.hid hb
    obtain ⟨n, hn⟩ : ∃ n, ss.length = n := ⟨_, rfl⟩
    rw [hn] at hs hcap ⊢
    have HN := Lib.hid hn
    clear hnil hrow hc hseq hK hb hr hn hsz
    go_wp2_with (go_at_call 25; refine hs.mono ?_; rintro e w2 ⟨rfl, d', hp, hso, hr2⟩)
    go_ret
    have hz : d'.size = n := by rw [hp.1]; simpa using HN.out
    have hri := rising_of (by simpa using HN.out) hp hso (by simpa using HK.out.1)
    refine ⟨_, d'.toList, rfl, .inr ⟨⟨gb, 0, none⟩, cap, by simp [hz], by simpa [hz] using hcap, fun i hi => ?_⟩, ⟨hri.1, fun x => by rw [hri.2 x]; simpa using HK.out.2.1 x⟩, hr2.but.below HB.out (fun k hk => by omega) (by have := HB.out.size; omega)⟩
    have hi' : i < d'.size := by simpa using hi
    rw [addr0, Nat.zero_add, hr2.cell i hi']
    simp [gt, hi']
theorem mpages0_any (p : Nat) (F : Nat → Prop) (g : Int → Int) (pg : Int → Bool) (pt : Int → Option Nat) (B : Nat) (D : DataW Unit) (w : World) (hm : PAt w p F g pg pt B D) :
    Calls Try.prog 17 #[.pointer (some ⟨p, 0, none⟩)] w fun e w' => ∃ (v : Value) (l : List Int), e = .returned v ∧ Slc .u32 w' v l.length (fun i => l.getD i 0) ∧ IsPages pg l ∧ Below w.heap.size w w' := by
  have hD : Maps.size D < 2147483648 := by
    obtain ⟨N, hN, h1, _⟩ := hm.size
    have := cnt_le pt N
    omega
  have hB1 : Below w.heap.size w (w.alloc (.cells #[.map (some B)] 46)) := below_last (Below.refl _ _) _
  have hm1 := hm.below hB1
  have hseq := keys_stops 2 (by omega) w.heap.size B _ D (w.alloc (.cells #[.map (some B)] 46)) (by simp) (by simp) hm1.map
  have hk := (callsIn_wide (n := 1)).1 (keys_in 1 (some B) w)
  have hs := sorted_any _ _ (enters_of Try.func26 (by kernel_rfl) rfl) D hD _ hseq
  have hc := hm.cell
  have HP := Lib.hid hm.pgs
  have HH := Lib.hid hm.has
  have HB := Lib.hid hB1
  clear hm hm1 hseq hB1
  go_enter Try.func17, Try.ntmps17
  go_wp2_with fail
  refine hk.mono ?_
  rintro e w1 ⟨rfl, hw1⟩
  subst hw1
  go_wp2_with fail
  refine hs.mono ?_
  rintro e w2 ⟨v, l, rfl, hsl, ⟨hr, hmem⟩, hb⟩
  go_wp2_with fail
  go_ret
  exact ⟨v, l, rfl, hsl, ⟨hr, fun q => by rw [hmem q, HH.out q, HP.out q]⟩, HB.out.trans (hb.mono (by simp))⟩
end Go.Proofs.Ytglcbhfkoigedaa
