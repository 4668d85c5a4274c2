/- Slices of literals; which operands may be put. -/
import Derived.Test.YtbbegbaaefgikaaRef9b
namespace Go.Proofs.Ytbbegbaaefgikaa
set_option maxRecDepth 100000
open Go.ChangeShapes Go.WideShapes Go.ChangeAt Go.RowKit

theorem addr_add (b o j : Nat) : (⟨b, o, none⟩ : Addr).add j = ⟨b, o + j, none⟩ := by unfold Addr.add; split <;> simp_all
/-- a slice of a block that was just made -/
theorem slc_new {k : IntKind} (w : World) (C : Array Value) (T : TypeId) (L cap : Nat) (bs : Nat → Int) (hL : L ≤ cap) (h : ∀ i, i < L → C[i]? = some (.int k (bs i))) : Slc k (w.alloc (.cells C T)) (.slice (some ⟨w.heap.size, 0, none⟩) L cap) L bs :=
  .inr ⟨_, _, rfl, hL, fun i hi => by rw [addr_add, Nat.zero_add, World.cell?_alloc_new, h i hi]⟩
theorem slc_at {k : IntKind} (w : World) (B : Nat) (hB : B = w.heap.size) (C : Array Value) (T : TypeId) (L cap : Nat) (bs : Nat → Int) (hL : L ≤ cap) (h : ∀ i, i < L → C[i]? = some (.int k (bs i))) : Slc k (w.alloc (.cells C T)) (.slice (some ⟨B, 0, none⟩) L cap) L bs := by
  subst hB
  exact slc_new w C T L cap bs hL h
/-- likewise, with one more block behind it -/
theorem slc_new2 {k : IntKind} (w : World) (C C' : Array Value) (T T' : TypeId) (L cap : Nat) (l : List Int) (hL : L ≤ cap) (h : ∀ i, i < L → C[i]? = some (.int k (l.getD i 0))) : Slc k ((w.alloc (.cells C T)).alloc (.cells C' T')) (.slice (some ⟨w.heap.size, 0, none⟩) L cap) L (fun i => l.getD i 0) :=
  (slc_new w C T L cap _ hL h).below ((Below.refl _ _).alloc (Nat.le_refl _) _)
theorem below_step {w a b : World} (h : Below w.heap.size w a) (k : Below a.heap.size a b) : Below w.heap.size w b := h.trans (k.mono h.size)
def lst (l : List Int) : Nat → Int := fun i => l.getD i 0
/-- which operands may be put -/
def putOk (reg : Int) (o : Opd) : Prop := 0 ≤ reg ∧ reg < 8 ∧ (regOk o ∨ memOk o)
instance (reg : Int) (o : Opd) : Decidable (putOk reg o) := by unfold putOk; infer_instance
theorem lst_ok {l : List Int} (h : ∀ x ∈ l, 0 ≤ x ∧ x < 256) (i : Nat) : 0 ≤ lst l i ∧ lst l i < 256 := by
  unfold lst
  by_cases hi : i < l.length
  · rw [List.getD_eq_getElem?_getD, List.getElem?_eq_getElem hi]; exact h _ (List.getElem_mem hi)
  · rw [List.getD_eq_getElem?_getD, List.getElem?_eq_none (by omega)]; exact ⟨Int.le_refl _, by decide⟩
theorem rmV_some {L : Nat} {bs : Nat → Int} {o : Opd} {r : Int} {n : Nat} (h : rmF L bs = some (o, r, n)) : rmV L bs = .tuple #[.agg #[.int .i64 o.kind, .int .i64 o.reg, .int .i64 o.base, .int .i64 o.index, .int .i64 o.scale, .int .u32 o.disp], .int .i64 r, .int .i64 n, .int .i64 0] := by unfold rmV; rw [h]
theorem rmV_none {L : Nat} {bs : Nat → Int} (h : rmF L bs = none) : rmV L bs = .tuple #[.agg #[.int .i64 0, .int .i64 0, .int .i64 0, .int .i64 0, .int .i64 0, .int .u32 0], .int .i64 0, .int .i64 0, .int .i64 21] := by unfold rmV; rw [h]
/-- six cells of a block that was made ahead of a call -/
theorem six_kept {w w2 : World} {a b c d e f : Value} {T : TypeId} (h : Below (w.alloc (.cells #[a, b, c, d, e, f] T)).heap.size (w.alloc (.cells #[a, b, c, d, e, f] T)) w2) :
    (w2.cell? ⟨w.heap.size, 0, none⟩ = some a ∧ w2.cell? ⟨w.heap.size, 1, none⟩ = some b ∧ w2.cell? ⟨w.heap.size, 2, none⟩ = some c ∧ w2.cell? ⟨w.heap.size, 3, none⟩ = some d ∧ w2.cell? ⟨w.heap.size, 4, none⟩ = some e ∧ w2.cell? ⟨w.heap.size, 5, none⟩ = some f) ∧ w.heap.size < w2.heap.size := by
  refine ⟨⟨?_, ?_, ?_, ?_, ?_, ?_⟩, bsize h⟩
  all_goals rw [h.cell (by simp), World.cell?_alloc_new]; rfl
theorem addM_ok (o : Opd) : 0 ≤ addM o ∧ addM o ≤ 2 := by unfold addM; split <;> (try split) <;> (try split) <;> omega
theorem addB_ok (o : Opd) : ∀ x ∈ addB o, 0 ≤ x ∧ x < 256 := by
  intro x hx
  unfold addB bytes4 at hx
  split at hx
  · simp at hx; omega
  · split at hx
    · cases hx
    · split at hx
      · simp at hx; omega
      · simp at hx; omega
theorem putF_ok (reg : Int) (o : Opd) (r0 : 0 ≤ reg) (r1 : reg < 8) (h : memOk o) (i : Nat) : 0 ≤ (putF reg o).getD i 0 ∧ (putF reg o).getD i 0 < 256 := by
  refine lst_ok (l := putF reg o) (fun x hx => ?_) i
  obtain ⟨hk, hrg, hb0, hb1, hi0, hi1, hi4, hs, his⟩ := h
  have ha := addM_ok o
  have hl := log9_ok o.scale hs
  unfold putF at hx
  rw [if_neg (by rw [hk]; decide)] at hx
  split at hx
  · rcases List.mem_cons.1 hx with rfl | hx
    · split <;> omega
    · exact addB_ok o x hx
  · rcases List.mem_cons.1 hx with rfl | hx
    · omega
    · rcases List.mem_cons.1 hx with rfl | hx
      · split <;> split <;> omega
      · exact addB_ok o x hx
end Go.Proofs.Ytbbegbaaefgikaa
