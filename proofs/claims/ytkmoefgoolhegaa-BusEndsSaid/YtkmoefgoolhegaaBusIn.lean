/- A bus that a call made itself, from world to world. -/
import Derived.Test.YtkmoefgoolhegaaBus
import Derived.Test.YtkmoefgoolhegaaMemIn
namespace Go.Proofs.Ytkmoefgoolhegaa
open Go.ChangeShapes Go.WideShapes Go.ChangeAt Go.RowKit

/-- A bus of new blocks; what was there before is as it was. -/
structure BIn (w0 w : World) (b : Nat) (F : Nat → Prop) (g : Int → Int) (pg : Int → Bool) (c d : Sg) : Prop where
  own : ∀ k, F k → w0.heap.size ≤ k
  bus : PBus w b F g pg c d
  low : Below w0.heap.size w0 w
variable {w0 w w' : World} {b p : Nat} {F : Nat → Prop} {g : Int → Int} {pg : Int → Bool} {c d : Sg}
theorem BIn.next (h : BIn w0 w b F g pg c d) (hb : Below w.heap.size w w') : BIn w0 w' b F g pg c d :=
  ⟨h.own, h.bus.but (G := fun _ => False) (But.of_below hb) (fun _ _ h => h), h.low.trans (hb.mono h.low.size)⟩
theorem BIn.wrote {F' : Nat → Prop} {g' : Int → Int} {pg' : Int → Bool} {c' d' : Sg} (h : BIn w0 w b F g pg c d) (hF : ∀ k, F' k → F k ∨ w.heap.size ≤ k) (hp : PBus w' b F' g' pg' c' d') (hb : But F w w') : BIn w0 w' b F' g' pg' c' d' :=
  ⟨fun k hk => (hF k hk).elim (h.own k) (fun q => Nat.le_trans h.low.size q), hp, hb.below h.low h.own h.low.size⟩
theorem bin_new (h : MIn w0 w p F g pg) (c d : Sg) (hc : c.ok) (hd : d.ok) :
    Calls Try.prog 10 #[.pointer (some ⟨p, 0, none⟩), .agg #[.int .u32 c.b, .int .u32 c.z, .bool c.r, .bool c.q, .bool c.x], .agg #[.int .u32 d.b, .int .u32 d.z, .bool d.r, .bool d.q, .bool d.x]] w fun e w' => ∃ (b : Nat) (F' : Nat → Prop), e = .returned (.pointer (some ⟨b, 0, none⟩)) ∧ BIn w0 w' b F' g pg c d :=
  (bnew_any p F g pg c d hc hd w h.mem).mono fun _ _ ⟨b, F', he, hF, hp, hb⟩ => ⟨b, F', he, fun k hk => (hF k hk).elim (h.own k) (fun q => Nat.le_trans h.low.size q), hp, h.low.trans (hb.mono h.low.size)⟩
theorem bin_store (h : BIn w0 w b F g pg c d) (off size v : Int) (o0 : 0 ≤ off) (o1 : off < 4294967296) (v0 : 0 ≤ v) (v1 : v < 18446744073709551616) :
    Calls Try.prog 11 #[.pointer (some ⟨b, 0, none⟩), .int .u32 off, .int .i64 size, .int .u64 v] w fun e w' => ∃ F', e = .returned (.int .i64 (stE d off size)) ∧ BIn w0 w' b F' (stG g d off size v) (stP pg d off size) c d :=
  (bstore_any b F g pg c d off size v o0 o1 v0 v1 w h.bus).mono fun _ _ ⟨F', he, hF, hp, hb⟩ => ⟨F', he, h.wrote hF hp hb⟩
theorem bin_load (h : BIn w0 w b F g pg c d) (off size : Int) (o0 : 0 ≤ off) (o1 : off < 4294967296) :
    Calls Try.prog 14 #[.pointer (some ⟨b, 0, none⟩), .int .u32 off, .int .i64 size] w fun e w' => e = .returned (.tuple #[.int .u64 (ldV g d off size), .int .i64 (ldE d off size)]) ∧ BIn w0 w' b F g pg c d :=
  (bload_any b F g pg c d off size o0 o1 w h.bus).mono fun _ _ ⟨he, hb⟩ => ⟨he, h.next hb⟩
theorem bin_fetch (h : BIn w0 w b F g pg c d) (ip n : Int) (i0 : 0 ≤ ip) (i1 : ip < 4294967296) :
    Calls Try.prog 15 #[.pointer (some ⟨b, 0, none⟩), .int .u32 ip, .int .i64 n] w fun e w' => ∃ y cap, e = .returned (.slice y (ftN c ip n) cap) ∧ Slc .u8 w' (.slice y (ftN c ip n) cap) (ftN c ip n) (fun i => g (c.b + ip + i)) ∧ BIn w0 w' b F g pg c d :=
  (bfetch_any b F g pg c d ip n i0 i1 w h.bus).mono fun _ _ ⟨v, he, hs, hb⟩ => by
    obtain ⟨y, cap, rfl⟩ := hs.len
    exact ⟨y, cap, he, hs, h.next hb⟩
theorem bin_grow (h : BIn w0 w b F g pg c d) (z : Int) (z0 : 0 ≤ z) (z1 : z < 4294967296) :
    Calls Try.prog 16 #[.pointer (some ⟨b, 0, none⟩), .int .u32 z] w fun e w' => ∃ F', e = .returned (.bool (growB d z)) ∧ BIn w0 w' b F' g pg c (growS d z) :=
  (bgrow_any b F g pg c d z z0 z1 w h.bus).mono fun _ _ ⟨F', he, hF, hp, hb⟩ => ⟨F', he, h.wrote hF hp hb⟩
theorem bin_memory (h : BIn w0 w b F g pg c d) :
    Calls Try.prog 12 #[.pointer (some ⟨b, 0, none⟩)] w fun e w' => ∃ (p : Nat) (Fm : Nat → Prop), e = .returned (.pointer (some ⟨p, 0, none⟩)) ∧ MIn w0 w' p Fm g pg :=
  (bmemory_any b F g pg c d w h.bus).mono fun _ _ ⟨p, Fm, he, hF, hp, hb⟩ => ⟨p, Fm, he, fun k hk => h.own k (hF k hk), hp, h.low.trans (hb.mono h.low.size)⟩
end Go.Proofs.Ytkmoefgoolhegaa
