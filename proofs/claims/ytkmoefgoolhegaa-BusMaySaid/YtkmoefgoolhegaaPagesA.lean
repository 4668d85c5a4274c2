/- The pages that were set, in order (slices.Sorted of maps.Keys). -/
import Derived.Test.YtkmoefgoolhegaaSortK
import Derived.Test.YtkmoefgoolhegaaCollect
import Derived.Test.YtkmoefgoolhegaaMemR
namespace Go.Proofs.Ytkmoefgoolhegaa
open Go.ChangeShapes Go.WideShapes Go.ChangeAt Go.RowKit Go.Maps Go.Deep Go.Sort Go.Shelf

/-! nothing is sorted -/
theorem row_own {w : World} {base : Nat} {v : Value} {ss : List Int} (h : w.ownsRow base 22 1 v ss.length (ss.map (Value.int .u32))) (hne : ss ≠ []) : ∃ g cap, v = .slice (some ⟨g, 0, none⟩) ss.length cap ∧ ss.length ≤ cap ∧ base ≤ g ∧ Row w w g ss.toArray := by
  have hp : 0 < ss.length := List.length_pos_iff.2 hne
  rcases h.2 with ⟨_, h0⟩ | ⟨g, cap, cur, rfl, hbase, hg, hle, hm, hsz, htake⟩
  · omega
  · refine ⟨g, cap, rfl, hle, hbase, fun t ht => ?_, fun t => by simp [World.frozen?, hg], But.refl _ _⟩
    have ht' : t < ss.length := by simpa using ht
    have hc := h.cells (g := g) rfl t (.int .u32 ss[t]) (by simp [ht'])
    rw [addr0, Nat.zero_add] at hc
    rw [hc]
    simp [gt, ht']
/-- sorted, each once: rising -/
theorem rising_of {n : Nat} {d d' : Array Int} (hn : d.size = n) (hp : PermIn 0 n d d') (hs : SortF 0 n d') (hd : d.toList.Nodup) : d'.toList.Pairwise (· < ·) ∧ ∀ x, x ∈ d'.toList ↔ x ∈ d.toList := by
  have hz : d'.size = n := by rw [hp.1, hn]
  have hpp := hp.2.2
  have e1 : d'.extract 0 n = d' := by rw [← hz]; simp
  have e2 : d.extract 0 n = d := by rw [← hn]; simp
  rw [e1, e2] at hpp
  refine ⟨?_, fun x => hpp.mem_iff⟩
  have hnd : d'.toList.Nodup := hpp.nodup_iff.2 hd
  rw [List.pairwise_iff_getElem]
  intro i j hi hj hij
  have h1 := hs i j (Nat.zero_le _) hij (by simpa [hz] using hj)
  have e : ∀ k (hk : k < d'.toList.length), gt d' k = d'.toList[k] := fun k hk => by
    have : k < d'.size := by simpa using hk
    simp [gt, this]
  rw [e i hi, e j hj] at h1
  have hne : d'.toList[i] ≠ d'.toList[j] := List.pairwise_iff_getElem.1 hnd i j hi hj hij
  omega
end Go.Proofs.Ytkmoefgoolhegaa
