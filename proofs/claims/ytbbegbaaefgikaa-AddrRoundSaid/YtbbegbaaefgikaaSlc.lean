/- Slices of whole numbers as they read; strings of bytes; pages that were set. -/
import Derived.Test.YtbbegbaaefgikaaRef6b
import Derived.Test.YtbbegbaaefgikaaShutMem
import Derived.Laws.IdiomStrings
import Derived.Laws.BytesString
namespace Go.Proofs.Ytbbegbaaefgikaa
set_option maxRecDepth 100000
open Go.ChangeShapes Go.WideShapes Go.ChangeAt Go.RowKit

/-- v is a slice of L numbers, bs 0, bs 1, .. -/
def Slc (k : IntKind) (w : World) (v : Value) (L : Nat) (bs : Nat → Int) : Prop :=
  (v = .slice none 0 0 ∧ L = 0) ∨ ∃ ad cap, v = .slice (some ad) L cap ∧ L ≤ cap ∧ ∀ i, i < L → w.cell? (ad.add i) = some (.int k (bs i))
theorem add_block (a : Addr) (i : Nat) : (a.add i).block = a.block := by unfold Addr.add; split <;> rfl
theorem Slc.but {k : IntKind} {F : Nat → Prop} {w w' : World} {v : Value} {L : Nat} {bs : Nat → Int} (h : Slc k w v L bs) (hb : But F w w') (hn : 0 < L → ∀ j, v.ownBlock = some j → ¬ F j) : Slc k w' v L bs := by
  rcases h with h | ⟨ad, cap, rfl, hl, hc⟩
  · exact .inl h
  · refine .inr ⟨ad, cap, rfl, hl, fun i hi => hb.cell (hc i hi) ?_⟩
    rw [add_block]
    exact hn (by omega) _ rfl
theorem Slc.below {k : IntKind} {w w' : World} {v : Value} {L : Nat} {bs : Nat → Int} (h : Slc k w v L bs) (hb : Below w.heap.size w w') : Slc k w' v L bs :=
  h.but (F := fun _ => False) (But.of_below hb) (fun _ _ _ h => h)
theorem Slc.own_lt {k : IntKind} {w : World} {v : Value} {L : Nat} {bs : Nat → Int} (h : Slc k w v L bs) (hL : 0 < L) (j : Nat) (hj : v.ownBlock = some j) : j < w.heap.size := by
  rcases h with ⟨rfl, rfl⟩ | ⟨ad, cap, rfl, hl, hc⟩
  · cases hj
  · injection hj with hj
    have := cell_lt (hc 0 hL)
    rw [add_block] at this
    omega
theorem Slc.len {k : IntKind} {w : World} {v : Value} {L : Nat} {bs : Nat → Int} (h : Slc k w v L bs) : ∃ a cap, v = .slice a L cap := by
  rcases h with ⟨rfl, rfl⟩ | ⟨ad, cap, rfl, hl, hc⟩
  · exact ⟨_, _, rfl⟩
  · exact ⟨_, _, rfl⟩
/-- A slice of numbers that was handed in. -/
theorem open_slc {H : Type} {enc : TypeId × Value → H} {P : Program} {w : World} {r : Reach} {b0 : Nat} {t e : TypeId} {k : IntKind} {v : Value} {d : DataW H} {ps : List MemPlace} (ht : P.underlying t = some (.slice e)) (he : P.underlying e = some (.int k)) (hc : P.cellsOf e = 1)
    (hv : Value.okWide P w r b0 t v) (h : DataW.Trod enc P w 0 (fun _ => true) true t v d ps) : ∃ (L : Nat) (bs : Nat → Int), Slc k w v L bs ∧ (∀ i, (Lit.int k (bs i)).wf = true) ∧ L ≤ maxLen := by
  obtain ⟨a, len, cap, rfl⟩ := okWide_slice ht hv
  obtain ⟨fuel, hf⟩ := h
  have h0 : ∀ q : IntKind, (Lit.int q 0).wf = true := fun q => by cases q <;> decide
  rcases open_ints ht he hc hf with ⟨hcs, _⟩ | ⟨ad, len', cap', zs, hcs, _, hl, hm, hz, _, hcell, hwf⟩
  · simp [Value.cells] at hcs
    obtain ⟨rfl, rfl, rfl⟩ := hcs
    exact ⟨0, fun _ => 0, .inl ⟨rfl, rfl⟩, fun _ => h0 _, Nat.zero_le _⟩
  · simp [Value.cells] at hcs
    obtain ⟨rfl, rfl, rfl⟩ := hcs
    rw [if_pos rfl] at hz
    refine ⟨len, fun i => zs.getD i 0, .inr ⟨ad, cap, rfl, hl, fun i hi => hcell i (by omega)⟩, fun i => ?_, Nat.le_trans hl hm⟩
    by_cases hi : i < zs.length
    · simp only [List.getD, List.getElem?_eq_getElem hi, Option.getD_some]; exact hwf _ (List.getElem_mem hi)
    · simp only [List.getD, List.getElem?_eq_none (Nat.le_of_not_lt hi), Option.getD_none]; exact h0 _
theorem Slc.congr {k : IntKind} {w : World} {v : Value} {L : Nat} {bs cs : Nat → Int} (h : Slc k w v L bs) (e : ∀ i, i < L → bs i = cs i) : Slc k w v L cs := by
  rcases h with h | ⟨ad, cap, rfl, hl, hc⟩
  · exact .inl h
  · exact .inr ⟨ad, cap, rfl, hl, fun i hi => by rw [hc i hi, e i hi]⟩
/-- the string of these bytes -/
def strOf (L : Nat) (bs : Nat → Int) : ByteArray := ⟨((List.range L).map fun i => UInt8.ofNat (bs i).toNat).toArray⟩
theorem strOf_congr {L : Nat} {bs cs : Nat → Int} (e : ∀ i, i < L → bs i = cs i) : strOf L bs = strOf L cs := by
  unfold strOf
  congr 2
  apply List.map_congr_left
  intro i hi
  rw [e i (by simpa using hi)]
theorem Slc.str {w : World} {v : Value} {L : Nat} {bs : Nat → Int} (h : Slc .u8 w v L bs) (h8 : ∀ i, i < L → 0 ≤ bs i ∧ bs i < 256) : (convert 47 9 v).run Try.prog w = .ok (.string (strOf L bs)) w := by
  rcases h with ⟨rfl, rfl⟩ | ⟨ad, cap, rfl, hl, hc⟩
  · rw [run_convert_bytes_string w 47 9 5 none 0 0 Try.underlying47 Try.underlying5 Try.underlying9]
    simp [Conv.bytesToString]
    rfl
  · have := run_convert_bytes_back (P := Try.prog) w 47 9 5 ad cap ((List.range L).map fun i => UInt8.ofNat (bs i).toNat) Try.underlying47 Try.underlying5 Try.underlying9 (fun j hj => by
      have hj' : j < L := by simpa using hj
      rw [hc j hj']
      have := h8 j hj'
      simp
      omega)
    simpa [strOf] using this
def setP (pg : Int → Bool) (a : Int) : Int → Bool := fun q => q == a / 4096 * 4096 || pg q
def writeP (pg : Int → Bool) (a : Int) : Nat → Int → Bool
  | 0 => pg
  | k + 1 => setP (writeP pg a k) (place a k)
/-- the pages that were set, rising -/
def IsPages (pg : Int → Bool) (l : List Int) : Prop := l.Pairwise (· < ·) ∧ ∀ q, q ∈ l ↔ pg q = true
end Go.Proofs.Ytbbegbaaefgikaa
