/- The state of MemPlays' script: the program's memory, the document's, the places that were set; from world to world. -/
import Derived.Test.YtglcbhfkoigedaaPlaysP
namespace Go.Proofs.Ytglcbhfkoigedaa
open Go.ChangeShapes Go.WideShapes Go.ChangeAt Go.RowKit

theorem grown_below {w w' : World} (hb : Below w.heap.size w w') (row : Option Nat) : w.grownBy w' row := ⟨hb.os, hb.tape, hb.output, hb.size, fun i hi _ => hb.block i hi⟩
theorem owns_but {F : Nat → Prop} {w w' : World} {base : Nat} {e : TypeId} {size : Nat} {v : Value} {n : Nat} {xs : List Value} (h : w.ownsRow base e size v n xs) (hb : But F w w') (hn : ∀ j, v.ownBlock = some j → ¬ F j) : w'.ownsRow base e size v n xs := by
  refine ⟨h.1, ?_⟩
  rcases h.2 with h0 | ⟨g, cap, cur, hv, hg, hh, r⟩
  · exact .inl h0
  · refine .inr ⟨g, cap, cur, hv, hg, ?_, r⟩
    have hl : g < w.heap.size := by
      rcases Nat.lt_or_ge g w.heap.size with h1 | h1
      · exact h1
      · rw [Array.getElem?_eq_none h1] at hh; cases hh
    rw [hb.block g hl (hn g (by rw [hv]; rfl)), hh]
theorem own_slc {w : World} {base : Nat} {v : Value} {l : List Int} (h : w.ownsRow base 29 1 v l.length (l.map (Value.int .u32))) : Slc .u32 w v l.length (fun i => l.getD i 0) := by
  by_cases hl : l = []
  · subst hl
    rcases h.2 with ⟨hv, _⟩ | ⟨g, cap, cur, hv, _, _, hc, _⟩
    · exact .inl ⟨hv, rfl⟩
    · exact .inr ⟨_, _, hv, hc, fun i hi => by simp at hi⟩
  · exact (out_own (B := base) h hl (Nat.le_refl _)).slc
theorem RefMap.lt {w : World} {B n : Nat} {g : Int → Int} (h : RefMap w B n g) : B < w.heap.size := by obtain ⟨D, h, _⟩ := h; exact h.lt

/-- what is known on the way -/
structure PS (w0 : World) (p : Nat) (v : Value) (F : Nat → Prop) (B n : Nat) (g gr : Int → Int) (ats : List Int) (pg : Int → Bool) (K : Addr → Value → Prop) (w : World) : Prop where
  mem : MIn w0 w p F g pg
  ref : RefMap w B n gr
  hB : w0.heap.size ≤ B ∧ ¬ F B
  own : w.ownsRow w0.heap.size 29 1 v ats.length (ats.map (Value.int .u32))
  ownB : ∀ j, v.ownBlock = some j → ¬ F j ∧ j ≠ B
  kn : ∀ a x, K a x → w.cell? a = some x ∧ ¬ F a.block ∧ a.block ≠ B ∧ v.ownBlock ≠ some a.block
variable {w0 w w' : World} {p : Nat} {v : Value} {F : Nat → Prop} {B n : Nat} {g gr : Int → Int} {ats : List Int} {pg : Int → Bool} {K : Addr → Value → Prop}
theorem PS.below (h : PS w0 p v F B n g gr ats pg K w) (hb : Below w.heap.size w w') : PS w0 p v F B n g gr ats pg K w' :=
  ⟨h.mem.next hb, h.ref.but (F := fun _ => False) (But.of_below hb) (fun h => h), h.hB, owns_but (F := fun _ => False) h.own (But.of_below hb) (fun _ _ h => h), h.ownB, fun a x ha => ⟨cell_call hb (h.kn a x ha).1, (h.kn a x ha).2⟩⟩
theorem PS.drew (h : PS w0 p v F B n g gr ats pg K w) : PS w0 p v F B n g gr ats pg K w.drew := h.below ((Below.refl _ _).drew)
theorem PS.fresh (h : PS w0 p v F B n g gr ats pg K w) (b : Nat) (hb : w.heap.size ≤ b) : ¬ F b ∧ b ≠ B ∧ v.ownBlock ≠ some b :=
  ⟨fun hf => by have := h.mem.mem.lt b hf; omega, by have := h.ref.lt; omega, fun ho => by have := (h.own.lt b ho).2; omega⟩
/-- a block that was made, its cells known -/
theorem PS.know (h : PS w0 p v F B n g gr ats pg K w) (o : Obj) (K' : Addr → Value → Prop) (hK : ∀ a x, K' a x → a.block = w.heap.size ∧ (w.alloc o).cell? a = some x) : PS w0 p v F B n g gr ats pg (fun a x => K a x ∨ K' a x) (w.alloc o) := by
  have h1 := h.below (below_last (Below.refl _ w) o)
  refine ⟨h1.mem, h1.ref, h1.hB, h1.own, h1.ownB, fun a x ha => ?_⟩
  rcases ha with ha | ha
  · exact h1.kn a x ha
  · obtain ⟨e, hc⟩ := hK a x ha
    obtain ⟨f1, f2, f3⟩ := h.fresh w.heap.size (Nat.le_refl _)
    rw [e]
    exact ⟨hc, f1, f2, f3⟩
theorem PS.less (h : PS w0 p v F B n g gr ats pg K w) (K' : Addr → Value → Prop) (hK : ∀ a x, K' a x → K a x) : PS w0 p v F B n g gr ats pg K' w :=
  ⟨h.mem, h.ref, h.hB, h.own, h.ownB, fun a x ha => h.kn a x (hK a x ha)⟩
/-- the program's memory was written -/
theorem PS.wrote {F' : Nat → Prop} {g' : Int → Int} {pg' : Int → Bool} (h : PS w0 p v F B n g gr ats pg K w) (hm : MIn w0 w' p F' g' pg') (hF : ∀ k, F' k → F k ∨ w.heap.size ≤ k) (hb : But F w w') : PS w0 p v F' B n g' gr ats pg' K w' := by
  refine ⟨hm, h.ref.but hb h.hB.2, ⟨h.hB.1, fun hf => (hF B hf).elim h.hB.2 (fun q => by have := h.ref.lt; omega)⟩, owns_but h.own hb (fun j hj => (h.ownB j hj).1), fun j hj => ⟨fun hf => (hF j hf).elim (h.ownB j hj).1 (fun q => by have := (h.own.lt j hj).2; omega), (h.ownB j hj).2⟩, fun a x ha => ?_⟩
  obtain ⟨h1, h2, h3, h4⟩ := h.kn a x ha
  exact ⟨hb.cell h1 h2, fun hf => (hF _ hf).elim h2 (fun q => by have := cell_lt h1; omega), h3, h4⟩
/-- the document's was -/
theorem PS.rwrote {n' : Nat} {gr' : Int → Int} (h : PS w0 p v F B n g gr ats pg K w) (hm : RefMap w' B n' gr') (hb : But (· = B) w w') : PS w0 p v F B n' g gr' ats pg K w' := by
  refine ⟨h.mem.but hb (fun k hk => by subst hk; exact h.hB), hm, h.hB, owns_but h.own hb (fun j hj => (h.ownB j hj).2), h.ownB, fun a x ha => ?_⟩
  obtain ⟨h1, h2, h3, h4⟩ := h.kn a x ha
  exact ⟨hb.cell h1 h3, h2, h3, h4⟩
/-- a place was set down -/
theorem PS.app {v' : Value} {m : Nat} {x : Int} (h : PS w0 p v F B n g gr ats pg K w) (ho : w'.ownsRow w0.heap.size 29 1 v' m (ats.map (Value.int .u32) ++ [.int .u32 x])) (hg : w.grownBy w' v.ownBlock) (hat : v'.ownBlock = v.ownBlock ∨ v'.ownBlock = some w.heap.size) : PS w0 p v' F B n g gr (ats ++ [x]) pg K w' := by
  have hb : But (fun k => v.ownBlock = some k) w w' := ⟨hg.os, hg.tape, hg.output, hg.size, fun k hk hn => hg.block k hk (fun e => hn e.symm)⟩
  have hm : m = (ats ++ [x]).length := by have := ho.1; simp at this; simp; omega
  subst hm
  refine ⟨h.mem.but hb (fun k hk => ⟨(h.own.lt k hk).1, (h.ownB k hk).1⟩), h.ref.but hb (fun e => (h.ownB _ e).2 rfl), h.hB, by rw [List.map_append]; exact ho, fun j hj => ?_, fun a x ha => ?_⟩
  · rcases hat with e | e
    · exact h.ownB j (by rw [← e, hj])
    · have : j = w.heap.size := by rw [hj] at e; injection e
      obtain ⟨f1, f2, _⟩ := h.fresh j (by omega)
      exact ⟨f1, f2⟩
  · obtain ⟨h1, h2, h3, h4⟩ := h.kn a x ha
    refine ⟨hb.cell h1 (fun e => h4 e), h2, h3, ?_⟩
    rcases hat with e | e
    · rw [e]; exact h4
    · rw [e]; intro e2; injection e2 with e2; have := cell_lt h1; omega

theorem ps_set (h : PS w0 p v F B n g gr ats pg K w) (a x : Int) (a0 : 0 ≤ a) (a1 : a < 4294967296) (x0 : 0 ≤ x) (x1 : x < 256) :
    Calls Try.prog 10 #[.pointer (some ⟨p, 0, none⟩), .int .u32 a, .int .u8 x] w fun e w' => ∃ F', e = .returned (.tuple #[]) ∧ PS w0 p v F' B n (setG g a x) gr ats (setP pg a) K w' :=
  (min_set h.mem a x a0 a1 x0 x1).mono fun _ _ ⟨F', he, hm, hF, hb⟩ => ⟨F', he, h.wrote hm hF hb⟩
theorem ps_write (h : PS w0 p v F B n g gr ats pg K w) (a : Int) (y : Value) (L : Nat) (bs : Nat → Int) (a0 : 0 ≤ a) (a1 : a < 4294967296) (hL : L < 2147483648) (hb : ∀ i, 0 ≤ bs i ∧ bs i < 256) (hs : Slc .u8 w y L bs) (hy : 0 < L → ∀ k, y.ownBlock = some k → ¬ F k) :
    Calls Try.prog 14 #[.pointer (some ⟨p, 0, none⟩), .int .u32 a, y] w fun e w' => ∃ F', e = .returned (.tuple #[]) ∧ PS w0 p v F' B n (writeG g a bs L) gr ats (writeP pg a L) K w' :=
  (min_write h.mem a y L bs a0 a1 hL hb hs hy).mono fun _ _ ⟨F', he, hm, hF, hb⟩ => ⟨F', he, h.wrote hm hF hb⟩
theorem ps_get (h : PS w0 p v F B n g gr ats pg K w) (a : Int) (a0 : 0 ≤ a) (a1 : a < 4294967296) :
    Calls Try.prog 12 #[.pointer (some ⟨p, 0, none⟩), .int .u32 a] w fun e w' => e = .returned (.int .u8 (g a)) ∧ PS w0 p v F B n g gr ats pg K w' :=
  (min_get h.mem a a0 a1).mono fun _ _ ⟨he, _, hb⟩ => ⟨he, h.below hb⟩
theorem ps_read (h : PS w0 p v F B n g gr ats pg K w) (a m : Int) (a0 : 0 ≤ a) (a1 : a < 4294967296) :
    Calls Try.prog 15 #[.pointer (some ⟨p, 0, none⟩), .int .u32 a, .int .i64 m] w fun e w' => ∃ y, e = .returned y ∧ Slc .u8 w' y (readN m) (fun i => g (place a i)) ∧ PS w0 p v F B n g gr ats pg K w' ∧ Below w.heap.size w w' :=
  (min_read h.mem a m a0 a1).mono fun _ _ ⟨y, he, hs, _, hb⟩ => ⟨y, he, hs, h.below hb, hb⟩
theorem ps_pages (h : PS w0 p v F B n g gr ats pg K w) :
    Calls Try.prog 17 #[.pointer (some ⟨p, 0, none⟩)] w fun e w' => ∃ (y : Value) (l : List Int), e = .returned y ∧ Slc .u32 w' y l.length (fun i => l.getD i 0) ∧ IsPages pg l ∧ PS w0 p v F B n g gr ats pg K w' :=
  (min_pages h.mem).mono fun _ _ ⟨y, l, he, hs, hp, _, hb⟩ => ⟨y, l, he, hs, hp, h.below hb⟩
theorem ps_rread {p2 : Nat} (h : PS w0 p v F B n g gr ats pg K w) (hp : K ⟨p2, 0, none⟩ (.map (some B))) (a m : Int) :
    Calls Try.prog 13 #[.pointer (some ⟨p2, 0, none⟩), .int .u32 a, .int .i64 m] w fun e w' => ∃ blk, e = .returned (.slice (some ⟨blk, 0, none⟩) (readN m) (readN m)) ∧ (∀ i, i < readN m → w'.cell? ⟨blk, i, none⟩ = some (.int .u8 (gr (place a i)))) ∧ PS w0 p v F B n g gr ats pg K w' ∧ Below w.heap.size w w' :=
  (rmread_any p2 B n gr a m w (h.kn _ _ hp).1 h.ref).mono fun _ _ ⟨blk, he, _, _, hc, hb⟩ => ⟨blk, he, hc, h.below hb, hb⟩
theorem ps_rwrite {p2 : Nat} (h : PS w0 p v F B n g gr ats pg K w) (hp : K ⟨p2, 0, none⟩ (.map (some B))) (a : Int) (ad : Addr) (L cap : Nat) (bs : Nat → Int) (hn : n + L < maxLen) (hL : L < 4294967296) (hadB : ad.block ≠ B)
    (hb : ∀ i, i < L → w.cell? (ad.add i) = some (.int .u8 (bs i))) (hb0 : ∀ i, 0 ≤ bs i ∧ bs i < 256) :
    Calls Try.prog 11 #[.pointer (some ⟨p2, 0, none⟩), .int .u32 a, .slice (some ad) L cap] w fun e w' => e = .returned (.tuple #[]) ∧ PS w0 p v F B (n + L) g (writeG gr a bs L) ats pg K w' :=
  (rmwrite_any p2 B n gr a ad L cap bs hn hL w (h.kn _ _ hp).1 h.ref (h.kn _ _ hp).2.2.1 hadB hb hb0).mono fun _ _ ⟨he, hm, hb⟩ => ⟨he, h.rwrote hm hb⟩
end Go.Proofs.Ytglcbhfkoigedaa
