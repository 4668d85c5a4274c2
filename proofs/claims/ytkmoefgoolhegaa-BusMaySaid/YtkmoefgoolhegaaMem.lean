/- The contracts of package mem. PMem w p F g pg: the memory at block p, made of the blocks F, has byte g a at place a; pg tells the pages that were set. -/
import Derived.Test.YtkmoefgoolhegaaPagesB
namespace Go.Proofs.Ytkmoefgoolhegaa
open Go.ChangeShapes Go.WideShapes Go.ChangeAt Go.RowKit

def PMem (w : World) (p : Nat) (F : Nat → Prop) (g : Int → Int) (pg : Int → Bool) : Prop := ∃ pt B D, PAt w p F g pg pt B D
theorem PMem.but {F G : Nat → Prop} {w w' : World} {p : Nat} {g : Int → Int} {pg : Int → Bool} (h : PMem w p F g pg) (hb : But G w w') (hn : ∀ k, F k → ¬ G k) : PMem w' p F g pg := by
  obtain ⟨pt, B, D, h⟩ := h
  exact ⟨pt, B, D, h.but hb hn⟩
theorem PMem.lt {F : Nat → Prop} {w : World} {p : Nat} {g : Int → Int} {pg : Int → Bool} (h : PMem w p F g pg) (k : Nat) (hk : F k) : k < w.heap.size := by
  obtain ⟨pt, B, D, h⟩ := h
  exact h.lt k hk
theorem PMem.self {F : Nat → Prop} {w : World} {p : Nat} {g : Int → Int} {pg : Int → Bool} (h : PMem w p F g pg) : F p := by
  obtain ⟨pt, B, D, h⟩ := h
  exact h.self
theorem PMem.byte {F : Nat → Prop} {w : World} {p : Nat} {g : Int → Int} {pg : Int → Bool} (h : PMem w p F g pg) (a : Int) : 0 ≤ g a ∧ g a < 256 := by
  obtain ⟨pt, B, D, h⟩ := h
  exact h.byte a
theorem mnew_any (w : World) : Calls Try.prog 8 #[] w fun e w' => ∃ (p : Nat) (F : Nat → Prop), e = .returned (.pointer (some ⟨p, 0, none⟩)) ∧ (∀ k, F k → w.heap.size ≤ k) ∧ PMem w' p F (fun _ => 0) (fun _ => false) ∧ Below w.heap.size w w' :=
  (mnew0_any w).mono fun _ _ ⟨p, F, B, h1, h2, h3, h4⟩ => ⟨p, F, h1, h2, ⟨_, B, _, h3⟩, h4⟩
theorem mget_any (p : Nat) (F : Nat → Prop) (g : Int → Int) (pg : Int → Bool) (a : Int) (a0 : 0 ≤ a) (a1 : a < 4294967296) (w : World) (hm : PMem w p F g pg) :
    Calls Try.prog 13 #[.pointer (some ⟨p, 0, none⟩), .int .u32 a] w fun e w' => e = .returned (.int .u8 (g a)) ∧ Below w.heap.size w w' := by
  obtain ⟨pt, B, D, h⟩ := hm
  exact (mget0_any p F g pg pt B D a a0 a1 w h).mono fun _ _ ⟨h1, h2⟩ => ⟨h1, h2 ▸ Below.refl _ _⟩
theorem mset_any (p : Nat) (F : Nat → Prop) (g : Int → Int) (pg : Int → Bool) (a v : Int) (a0 : 0 ≤ a) (a1 : a < 4294967296) (v0 : 0 ≤ v) (v1 : v < 256) (w : World) (hm : PMem w p F g pg) :
    Calls Try.prog 9 #[.pointer (some ⟨p, 0, none⟩), .int .u32 a, .int .u8 v] w fun e w' => ∃ F', e = .returned (.tuple #[]) ∧ (∀ k, F' k → F k ∨ w.heap.size ≤ k) ∧ PMem w' p F' (setG g a v) (setP pg a) ∧ But F w w' := by
  obtain ⟨pt, B, D, h⟩ := hm
  exact (mset0_any p F g pg pt B D a v a0 a1 v0 v1 w h).mono fun _ _ ⟨F', pt', D', h1, h2, h3, h4⟩ => ⟨F', h1, h2, ⟨pt', B, D', h3⟩, h4⟩
theorem mread_any (p : Nat) (F : Nat → Prop) (g : Int → Int) (pg : Int → Bool) (a m : Int) (a0 : 0 ≤ a) (a1 : a < 4294967296) (w : World) (hm : PMem w p F g pg) :
    Calls Try.prog 24 #[.pointer (some ⟨p, 0, none⟩), .int .u32 a, .int .i64 m] w fun e w' => ∃ v, e = .returned v ∧ Slc .u8 w' v (readN m) (fun i => g (place a i)) ∧ Below w.heap.size w w' := by
  obtain ⟨pt, B, D, h⟩ := hm
  exact mread0_any p F g pg pt B D a m a0 a1 w h
theorem mwrite_any (p : Nat) (F : Nat → Prop) (g : Int → Int) (pg : Int → Bool) (a : Int) (v : Value) (L : Nat) (bs : Nat → Int) (a0 : 0 ≤ a) (a1 : a < 4294967296) (_ : L < 2147483648) (hb : ∀ i, 0 ≤ bs i ∧ bs i < 256) (w : World) (hm : PMem w p F g pg) (hs : Slc .u8 w v L bs) (hv : 0 < L → ∀ k, v.ownBlock = some k → ¬ F k) :
    Calls Try.prog 22 #[.pointer (some ⟨p, 0, none⟩), .int .u32 a, v] w fun e w' => ∃ F', e = .returned (.tuple #[]) ∧ (∀ k, F' k → F k ∨ w.heap.size ≤ k) ∧ PMem w' p F' (writeG g a bs L) (writeP pg a L) ∧ But F w w' := by
  obtain ⟨pt, B, D, h⟩ := hm
  exact (mwrite0_any p F g pg pt B D a v L bs a0 a1 hb w h hs hv).mono fun _ _ ⟨F', pt', D', h1, h2, h3, h4⟩ => ⟨F', h1, h2, ⟨pt', B, D', h3⟩, h4⟩
end Go.Proofs.Ytkmoefgoolhegaa
