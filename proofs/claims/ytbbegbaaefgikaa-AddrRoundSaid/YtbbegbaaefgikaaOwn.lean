/- Memory of which a call may write some blocks and no others; maps that stay. -/
import Derived.Test.YtbbegbaaefgikaaCells
import Derived.Maps.Own
import Derived.Maps.OwnOps
import Derived.Maps.Views
namespace Go.Proofs.Ytbbegbaaefgikaa
set_option maxRecDepth 100000
open Go.RowKit Go.Maps

/-- All blocks that were there read as they did, but those of F. -/
structure But (F : Nat → Prop) (w w' : World) : Prop where
  os : w'.os = w.os
  tape : w'.tape = w.tape
  output : w'.output = w.output
  size : w.heap.size ≤ w'.heap.size
  block : ∀ k, k < w.heap.size → ¬ F k → w'.heap[k]? = w.heap[k]?
theorem But.refl (F : Nat → Prop) (w : World) : But F w w := ⟨rfl, rfl, rfl, Nat.le_refl _, fun _ _ _ => rfl⟩
theorem But.trans {F G : Nat → Prop} {a b c : World} (h : But F a b) (k : But G b c) (hG : ∀ i, i < a.heap.size → G i → F i) : But F a c :=
  ⟨k.os.trans h.os, k.tape.trans h.tape, k.output.trans h.output, Nat.le_trans h.size k.size, fun i hi hF => (k.block i (Nat.lt_of_lt_of_le hi h.size) (fun hg => hF (hG i hi hg))).trans (h.block i hi hF)⟩
theorem But.mono {F G : Nat → Prop} {a b : World} (h : But F a b) (hG : ∀ i, i < a.heap.size → F i → G i) : But G a b :=
  ⟨h.os, h.tape, h.output, h.size, fun i hi hn => h.block i hi (fun hf => hn (hG i hi hf))⟩
theorem But.of_below {F : Nat → Prop} {w w' : World} (h : Below w.heap.size w w') : But F w w' := ⟨h.os, h.tape, h.output, h.size, fun k hk _ => h.block k hk⟩
theorem But.of_grown {w w' : World} {b : Nat} (h : w.grownBy w' (some b)) : But (· = b) w w' := ⟨h.os, h.tape, h.output, h.size, fun k hk hn => h.block k hk (fun e => hn (by injection e))⟩
theorem But.alloc {F : Nat → Prop} {w w' : World} (h : But F w w') (o : Obj) : But F w (w'.alloc o) :=
  h.trans (But.of_below (F := F) ((Below.refl _ _).alloc (Nat.le_refl _) _)) (fun _ _ hf => hf)
theorem But.drew {F : Nat → Prop} {w w' : World} (h : But F w w') : But F w w'.drew := ⟨h.os, h.tape, h.output, h.size, h.block⟩
theorem But.setCell {F : Nat → Prop} {w w' : World} (h : But F w w') {a : Addr} (ha : a.block < w.heap.size → F a.block) (v : Value) : But F w (w'.setCell a v) := by
  refine ⟨h.os, h.tape, h.output, by simpa using h.size, fun k hk hn => ?_⟩
  have hne : a.block ≠ k := fun e => hn (e ▸ ha (e ▸ hk))
  rw [← h.block k hk hn]
  simp [World.setCell, Array.getElem?_modify, hne]
theorem But.cell {F : Nat → Prop} {w w' : World} (h : But F w w') {p : Addr} {x : Value} (hc : w.cell? p = some x) (hn : ¬ F p.block) : w'.cell? p = some x := by
  rw [World.cell?_of_block (h.block p.block (cell_lt hc) hn), hc]
theorem But.frozen {F : Nat → Prop} {w w' : World} (h : But F w w') {p : Addr} (hl : p.block < w.heap.size) (hn : ¬ F p.block) : w'.frozen? p = w.frozen? p :=
  World.frozen?_of_block (h.block p.block hl hn)
theorem But.below {F : Nat → Prop} {B : Nat} {a w w' : World} (h : But F w w') (hb : Below B a w) (hF : ∀ k, F k → B ≤ k) (hB : B ≤ w.heap.size) : Below B a w' :=
  ⟨h.os.trans hb.os, h.tape.trans hb.tape, h.output.trans hb.output, Nat.le_trans hb.size h.size, fun k hk => (h.block k (Nat.lt_of_lt_of_le hk hB) (fun hf => by have := hF k hf; omega)).trans (hb.block k hk)⟩
theorem But.owns {H : Type} {F : Nat → Prop} {w w' : World} {P : Program} {k : TypeId} {R : Value → Option (DataW H × List MemPlace)} {b n : Nat} {D : DataW H} (h : But F w w') (hm : w.ownsMap P k R b n D) (hn : ¬ F b) : w'.ownsMap P k R b n D := by
  have hl := hm.lt
  obtain ⟨es, clock, hb, r⟩ := hm
  exact ⟨es, clock, (h.block b hl hn).trans hb, r⟩
end Go.Proofs.Ytbbegbaaefgikaa
