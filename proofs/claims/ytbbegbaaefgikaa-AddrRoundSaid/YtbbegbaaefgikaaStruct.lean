/- Structs that lie whole in a block: read, written, answered at once. -/
import Derived.Test.YtbbegbaaefgikaaNew9
import Derived.Deep.MidRow
namespace Go.Proofs.Ytbbegbaaefgikaa
set_option maxRecDepth 100000
open Go.ChangeShapes Go.WideShapes Go.ChangeAt Go.RowKit

theorem cell_block {u : World} {B : Nat} {C : Array Value} {T : TypeId} (h : u.heap[B]? = some (.cells C T (0, 0))) (j : Nat) : u.cell? ⟨B, j, none⟩ = C[j]? ∧ u.frozen? ⟨B, j, none⟩ = false := by
  unfold World.cell? World.frozen?
  simp only
  rw [h]
  simp
theorem range_block {u : World} {B : Nat} {C : Array Value} {T : TypeId} (h : u.heap[B]? = some (.cells C T (0, 0))) : u.rangeAt B 0 C.toList := fun j v hv => by
  rw [Nat.zero_add, (cell_block h j).1]
  simpa using hv
theorem there_block {u : World} {B : Nat} {C : Array Value} {T : TypeId} (h : u.heap[B]? = some (.cells C T (0, 0))) (o n : Nat) (hn : o + n ≤ C.size) : u.there B o n := fun j hj => by
  rw [(cell_block h (o + j)).1, (cell_block h (o + j)).2, Array.getElem?_eq_getElem (by omega)]
  exact ⟨rfl, rfl⟩
theorem below_setCells {n : Nat} {a : World} {B : Nat} (hB : n ≤ B) : ∀ (vs : List Value) (o : Nat) (u : World), Below n a u → Below n a (u.setCells B o vs)
  | [], _, _, h => h
  | v :: vs, o, u, h => below_setCells hB vs (o + 1) _ (h.setCell (by exact hB) v)
/-- a variable that lies whole is read -/
theorem load_range {P : Program} {u : World} {B o : Nat} {cs : List Value} (T : TypeId) (d : TypeDesc) (hu : P.underlying T = some d) (hd : d.isRow = true) (hi : (P.info? T).map (·.size) = some cs.length) (h : u.rangeAt B o cs) : (loadVar T ⟨B, o, none⟩).run P u = .ok (.agg cs.toArray) u :=
  run_loadVar_mid u B o T cs d h hu hd hi
/-- some cells of a block written -/
def setL (C : Array Value) : Nat → List Value → Array Value
  | _, [] => C
  | o, v :: vs => setL (C.setIfInBounds o v) (o + 1) vs
theorem block_setCell {u : World} {B : Nat} {C : Array Value} {T : TypeId} (h : u.heap[B]? = some (.cells C T (0, 0))) (o : Nat) (v : Value) : (u.setCell ⟨B, o, none⟩ v).heap[B]? = some (.cells (C.setIfInBounds o v) T (0, 0)) := by
  unfold World.setCell
  simp only [Array.getElem?_modify]
  rw [h]
  simp
theorem block_setCells {B : Nat} {T : TypeId} : ∀ (vs : List Value) (o : Nat) (u : World) (C : Array Value), u.heap[B]? = some (.cells C T (0, 0)) → (u.setCells B o vs).heap[B]? = some (.cells (setL C o vs) T (0, 0))
  | [], _, _, _, h => h
  | v :: vs, o, _, _, h => block_setCells vs (o + 1) _ _ (block_setCell h o v)
/-- six cells of eighteen written -/
theorem setL_3 (v0 v1 v2 v3 v4 v5 v6 v7 v8 v9 v10 v11 v12 v13 v14 v15 v16 v17 a b c d e f : Value) : setL #[v0, v1, v2, v3, v4, v5, v6, v7, v8, v9, v10, v11, v12, v13, v14, v15, v16, v17] 3 [a, b, c, d, e, f] = #[v0, v1, v2, a, b, c, d, e, f, v9, v10, v11, v12, v13, v14, v15, v16, v17] := rfl
theorem setL_9 (v0 v1 v2 v3 v4 v5 v6 v7 v8 v9 v10 v11 v12 v13 v14 v15 v16 v17 a b c d e f : Value) : setL #[v0, v1, v2, v3, v4, v5, v6, v7, v8, v9, v10, v11, v12, v13, v14, v15, v16, v17] 9 [a, b, c, d, e, f] = #[v0, v1, v2, v3, v4, v5, v6, v7, v8, a, b, c, d, e, f, v15, v16, v17] := rfl
theorem set_17 (v0 v1 v2 v3 v4 v5 v6 v7 v8 v9 v10 v11 v12 v13 v14 v15 v16 v17 a : Value) : (#[v0, v1, v2, v3, v4, v5, v6, v7, v8, v9, v10, v11, v12, v13, v14, v15, v16, v17] : Array Value).setIfInBounds 17 a = #[v0, v1, v2, v3, v4, v5, v6, v7, v8, v9, v10, v11, v12, v13, v14, v15, v16, a] := rfl
theorem other_setCell {u : World} {B k : Nat} (hk : k ≠ B) (o : Nat) (v : Value) : (u.setCell ⟨B, o, none⟩ v).heap[k]? = u.heap[k]? := by
  unfold World.setCell
  simp only [Array.getElem?_modify]
  exact if_neg (fun e => hk e.symm)
theorem other_setCells {B k : Nat} (hk : k ≠ B) : ∀ (vs : List Value) (o : Nat) (u : World), (u.setCells B o vs).heap[k]? = u.heap[k]?
  | [], _, _ => rfl
  | v :: vs, o, _ => (other_setCells hk vs (o + 1) _).trans (other_setCell hk o v)
/-- a struct in a block, and a number beside it, are answered -/
theorem results_cell_tmp {P : Program} {fn : Func} {a b : Nat} {T : TypeId} {tmps : Array Value} {p : Addr} {c v : Value} {u : World} (hr : fn.results = #[.cell a T, .tmp b]) (ha : tmps.getD a undef = .pointer (some p)) (hb : tmps.getD b undef = v) (hl : (loadVar T p).run P u = .ok c u) : (results fn tmps).run P u = .ok (.tuple #[c, v]) u := by
  have h : results fn tmps = (do
      let x ← (do loadVar T (← asAddr (tmps.getD a undef)))
      let y ← pure (tmps.getD b undef)
      pure (.tuple #[x, y])) := by
    unfold results
    rw [hr]
    simp
  rw [h, ha, hb]
  simp only [asAddr, Sem.run_bind, Sem.run_pure, Result.andThen, hl]
end Go.Proofs.Ytbbegbaaefgikaa
