/- A memory that a call made itself, from world to world. -/
import Derived.Test.YtkmoefgoolhegaaMem
namespace Go.Proofs.Ytkmoefgoolhegaa
open Go.ChangeShapes Go.WideShapes Go.ChangeAt Go.RowKit

/-- A memory of new blocks; what was there before is as it was. -/
structure MIn (w0 w : World) (p : Nat) (F : Nat → Prop) (g : Int → Int) (pg : Int → Bool) : Prop where
  own : ∀ k, F k → w0.heap.size ≤ k
  mem : PMem w p F g pg
  low : Below w0.heap.size w0 w
variable {w0 w w' : World} {p : Nat} {F : Nat → Prop} {g : Int → Int} {pg : Int → Bool}
theorem MIn.but {G : Nat → Prop} (h : MIn w0 w p F g pg) (hb : But G w w') (hG : ∀ k, G k → w0.heap.size ≤ k ∧ ¬ F k) : MIn w0 w' p F g pg :=
  ⟨h.own, h.mem.but hb (fun k hk hg => (hG k hg).2 hk), hb.below h.low (fun k hk => (hG k hk).1) h.low.size⟩
theorem MIn.next (h : MIn w0 w p F g pg) (hb : Below w.heap.size w w') : MIn w0 w' p F g pg := h.but (G := fun _ => False) (But.of_below hb) (fun _ h => h.elim)
theorem MIn.alloc (h : MIn w0 w p F g pg) (o : Obj) : MIn w0 (w.alloc o) p F g pg := h.next (below_last (Below.refl _ _) _)
theorem MIn.drew (h : MIn w0 w p F g pg) : MIn w0 w.drew p F g pg := h.next ((Below.refl _ _).drew)
theorem min_new (w : World) (hlow : Below w0.heap.size w0 w) : Calls Try.prog 8 #[] w fun e w' => ∃ (p : Nat) (F : Nat → Prop), e = .returned (.pointer (some ⟨p, 0, none⟩)) ∧ MIn w0 w' p F (fun _ => 0) (fun _ => false) ∧ (∀ k, F k → w.heap.size ≤ k) ∧ Below w.heap.size w w' :=
  (mnew_any w).mono fun _ _ ⟨p, F, he, hF, hm, hb⟩ => ⟨p, F, he, ⟨fun k hk => Nat.le_trans hlow.size (hF k hk), hm, hlow.trans (hb.mono hlow.size)⟩, hF, hb⟩
theorem min_get (h : MIn w0 w p F g pg) (a : Int) (a0 : 0 ≤ a) (a1 : a < 4294967296) :
    Calls Try.prog 13 #[.pointer (some ⟨p, 0, none⟩), .int .u32 a] w fun e w' => e = .returned (.int .u8 (g a)) ∧ MIn w0 w' p F g pg ∧ Below w.heap.size w w' :=
  (mget_any p F g pg a a0 a1 w h.mem).mono fun _ _ ⟨he, hb⟩ => ⟨he, h.next hb, hb⟩
theorem min_set (h : MIn w0 w p F g pg) (a v : Int) (a0 : 0 ≤ a) (a1 : a < 4294967296) (v0 : 0 ≤ v) (v1 : v < 256) :
    Calls Try.prog 9 #[.pointer (some ⟨p, 0, none⟩), .int .u32 a, .int .u8 v] w fun e w' => ∃ F', e = .returned (.tuple #[]) ∧ MIn w0 w' p F' (setG g a v) (setP pg a) ∧ (∀ k, F' k → F k ∨ w.heap.size ≤ k) ∧ But F w w' :=
  (mset_any p F g pg a v a0 a1 v0 v1 w h.mem).mono fun _ _ ⟨F', he, hF, hm, hb⟩ => ⟨F', he, ⟨fun k hk => (hF k hk).elim (h.own k) (fun q => Nat.le_trans h.low.size q), hm, hb.below h.low h.own h.low.size⟩, hF, hb⟩
theorem min_read (h : MIn w0 w p F g pg) (a m : Int) (a0 : 0 ≤ a) (a1 : a < 4294967296) :
    Calls Try.prog 24 #[.pointer (some ⟨p, 0, none⟩), .int .u32 a, .int .i64 m] w fun e w' => ∃ v, e = .returned v ∧ Slc .u8 w' v (readN m) (fun i => g (place a i)) ∧ MIn w0 w' p F g pg ∧ Below w.heap.size w w' :=
  (mread_any p F g pg a m a0 a1 w h.mem).mono fun _ _ ⟨v, he, hs, hb⟩ => ⟨v, he, hs, h.next hb, hb⟩
theorem min_write (h : MIn w0 w p F g pg) (a : Int) (v : Value) (L : Nat) (bs : Nat → Int) (a0 : 0 ≤ a) (a1 : a < 4294967296) (hL : L < 2147483648) (hb : ∀ i, 0 ≤ bs i ∧ bs i < 256) (hs : Slc .u8 w v L bs) (hv : 0 < L → ∀ k, v.ownBlock = some k → ¬ F k) :
    Calls Try.prog 22 #[.pointer (some ⟨p, 0, none⟩), .int .u32 a, v] w fun e w' => ∃ F', e = .returned (.tuple #[]) ∧ MIn w0 w' p F' (writeG g a bs L) (writeP pg a L) ∧ (∀ k, F' k → F k ∨ w.heap.size ≤ k) ∧ But F w w' :=
  (mwrite_any p F g pg a v L bs a0 a1 hL hb w h.mem hs hv).mono fun _ _ ⟨F', he, hF, hm, hb⟩ => ⟨F', he, ⟨fun k hk => (hF k hk).elim (h.own k) (fun q => Nat.le_trans h.low.size q), hm, hb.below h.low h.own h.low.size⟩, hF, hb⟩
end Go.Proofs.Ytkmoefgoolhegaa
