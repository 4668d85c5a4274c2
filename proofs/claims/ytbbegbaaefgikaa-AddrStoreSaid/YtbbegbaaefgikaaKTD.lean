import Derived.Deep.CutBlock
import Derived.StillTailTactics
import Derived.Test.YtbbegbaaefgikaaRows
import Derived.ProofKit
import Derived.OpenShut
import Derived.ChangeSame
import Derived.ChangeArms
import Derived.Test.YtbbegbaaefgikaaKTC
namespace Go.Proofs.Ytbbegbaaefgikaa
open Go.ChangeShapes Go.WideShapes Go.ChangeAt Go.RowKit
set_option maxRecDepth 100000
theorem heap_three {w W : World} {o p q : Obj} (h : W = ((w.alloc o).alloc p).alloc q) : W.heap[w.heap.size]? = some o ∧ W.heap[w.heap.size + 1]? = some p ∧ W.heap[w.heap.size + 2]? = some q ∧ Below w.heap.size w W := by
  obtain ⟨h1, h2, h3⟩ := heap_two (W := (w.alloc o).alloc p) rfl
  have hk : ∀ k, k < ((w.alloc o).alloc p).heap.size → W.heap[k]? = ((w.alloc o).alloc p).heap[k]? := fun k hk => by
    rw [h]
    exact (below_last (Below.refl _ _) q).block k hk
  refine ⟨(hk _ (by simp; omega)).trans h1, (hk _ (by simp)).trans h2, ?_, by rw [h]; exact below_last h3 _⟩
  rw [h]
  show (((w.alloc o).alloc p).heap.push q)[w.heap.size + 2]? = _
  rw [show w.heap.size + 2 = ((w.alloc o).alloc p).heap.size by simp]
  exact Array.getElem?_push_size
theorem sta_one (s : Sta) : (staL s).toArray.all (·.oneCell') = true := by simp [staL, Value.oneCell']
structure SB (w : World) (A : Nat) (t : Sta) (u : World) : Prop where
  b : u.heap[w.heap.size]? = some (.cells (staL t).toArray 29 (0, 0))
  a : ∃ C, u.heap[A]? = some (.cells C 29 (0, 0)) ∧ C.size = 23
  lt : w.heap.size < A
  bel : Below w.heap.size w u
theorem SB.set {w u : World} {A : Nat} {t t' : Sta} (h : SB w A t u) (k : Nat) (v : Value) (e : (staL t).toArray.setIfInBounds k v = (staL t').toArray) : SB w A t' (u.setCell ⟨w.heap.size, k, none⟩ v) := by
  obtain ⟨C, hC, hz⟩ := h.a
  refine ⟨?_, ⟨C, (other_setCell (Nat.ne_of_gt h.lt) k v).trans hC, hz⟩, h.lt, h.bel.setCell (Nat.le_refl _) v⟩
  rw [← e]
  exact block_setCell h.b k v
theorem SB.range {w u : World} {A : Nat} {t : Sta} (h : SB w A t u) : u.rangeAt w.heap.size 0 (staL t) := fun j v hj => by
  rw [Nat.zero_add, (cell_block h.b j).1]
  simpa using hj
theorem SB.there {w u : World} {A : Nat} {t : Sta} (h : SB w A t u) : u.there A 0 23 := by
  obtain ⟨C, hC, hz⟩ := h.a
  exact there_block hC 0 23 (by omega)
theorem SB.drew {w u : World} {A : Nat} {t : Sta} (h : SB w A t u) : SB w A t u.drew := ⟨h.b, h.a, h.lt, h.bel.drew⟩
set_option maxRecDepth 100000
section
variable {H : Type} {enc : TypeId × Value → H} {P : Program}
theorem post_plain {f : Func} {s : ChangeSpec} {apart fresh handsOn again : Bool} {W W' : World} {args : Array Value} {v : Value} {ds gs : List (DataW H)}
    (hW : DataW.Whole enc P f.params.toList s.vars apart W args.toList ds gs []) (hb : Below W.heap.size W W')
    (hargs : ∀ sp : Nat → Bool, DataW.TrodAll enc P W' 0 sp true f.params.toList args.toList (s.fn H (ds ++ gs)).args [])
    (hvars : ∀ sp : Nat → Bool, DataW.TrodVars enc P W' sp s.vars (s.fn H (ds ++ gs)).vars [])
    (hres : ∀ (b : Nat) (sp : Nat → Bool) (hd : Bool), DataW.TrodAll enc P W' b sp hd f.resultTypes.toList (v.resultList f.resultTypes.size) (s.fn H (ds ++ gs)).results [])
    (hok : ∀ (j : Nat) (t : TypeId) (r : Value), f.resultTypes[j]? = some t → (v.resultList f.resultTypes.size)[j]? = some r → Value.okWide P W' .any 0 t r) :
    s.post enc P f apart fresh handsOn again W args v W' := by
  refine ⟨ds, gs, [], [], [], [], hW, hres _ _ _, hargs _, hvars _, hb.frame _, fun _ => ?_⟩
  have hA := trodAll_append (hargs fun _ => true) (hres 0 (fun _ => true) true)
  refine ⟨hok, _, _, [] ++ [], ⟨[] ++ [], [], hA, hvars fun _ => true, rfl, ?_, ?_⟩, ?_⟩
  · intro b off hp; cases hp
  · intro _; exact List.nodup_nil
  · intro p hp; cases hp
end
section
variable {H : Type} {enc : TypeId × Value → H} {w : World} {base : Nat} {spare : Nat → Bool} {held : Bool}
end
end Go.Proofs.Ytbbegbaaefgikaa
