import Derived.Laws.MathBits
import Derived.Handy
import Derived.BigQuiet
import Derived.Deep.QuietTactic
import Derived.Deep.DeepCutAuto
import Derived.Deep.CutBlock
import Derived.Lib.Hide
import Derived.Deep.MidRow
import Derived.Test.YtbbegbaaefgikaaKTA
namespace Go.Proofs.Ytbbegbaaefgikaa
open Go.ChangeShapes Go.WideShapes Go.ChangeAt Go.RowKit
set_option maxRecDepth 100000
def opV (o : Opd) : Value := .agg #[.int .i64 o.kind, .int .i64 o.reg, .int .i64 o.base, .int .i64 o.index, .int .i64 o.scale, .int .u32 o.disp]
set_option maxRecDepth 100000
def Sib (L : Nat) (bs : Nat → Int) (N : Nat) (B I S : Int) : Prop := (bs 0 % 8 ≠ 4 ∧ N = 1 ∧ B = bs 0 % 8 ∧ I = -1 ∧ S = 1) ∨ (bs 0 % 8 = 4 ∧ 2 ≤ L ∧ N = 2 ∧ B = bs 1 % 8 ∧ I = sibI (bs 1) ∧ S = sibS (bs 1))
theorem Sib.none {L : Nat} {bs : Nat → Int} (h0 : L ≠ 0) (h3 : bs 0 / 64 ≠ 3) (h4 : bs 0 % 8 = 4) (hL : L < 2) : rmF L bs = .none := by
  unfold rmF
  rw [if_neg h0, if_neg h3, if_pos h4, if_pos hL]
set_option maxRecDepth 100000
theorem below_step {w a b : World} (h : Below w.heap.size w a) (k : Below a.heap.size a b) : Below w.heap.size w b := h.trans (k.mono h.size)
def putOk (reg : Int) (o : Opd) : Prop := 0 ≤ reg ∧ reg < 8 ∧ (regOk o ∨ memOk o)
instance (reg : Int) (o : Opd) : Decidable (putOk reg o) := by unfold putOk; infer_instance
set_option maxRecDepth 100000
theorem cell_block {u : World} {B : Nat} {C : Array Value} {T : TypeId} (h : u.heap[B]? = some (.cells C T (0, 0))) (j : Nat) : u.cell? ⟨B, j, none⟩ = C[j]? ∧ u.frozen? ⟨B, j, none⟩ = false := by
  unfold World.cell? World.frozen?
  simp only
  rw [h]
  simp
theorem there_block {u : World} {B : Nat} {C : Array Value} {T : TypeId} (h : u.heap[B]? = some (.cells C T (0, 0))) (o n : Nat) (hn : o + n ≤ C.size) : u.there B o n := fun j hj => by
  rw [(cell_block h (o + j)).1, (cell_block h (o + j)).2, Array.getElem?_eq_getElem (by omega)]
  exact ⟨rfl, rfl⟩
theorem below_setCells {n : Nat} {a : World} {B : Nat} (hB : n ≤ B) : ∀ (vs : List Value) (o : Nat) (u : World), Below n a u → Below n a (u.setCells B o vs)
  | [], _, _, h => h
  | v :: vs, o, u, h => below_setCells hB vs (o + 1) _ (h.setCell (by exact hB) v)
theorem load_range {P : Program} {u : World} {B o : Nat} {cs : List Value} (T : TypeId) (d : TypeDesc) (hu : P.underlying T = some d) (hd : d.isRow = true) (hi : (P.info? T).map (·.size) = some cs.length) (h : u.rangeAt B o cs) : (loadVar T ⟨B, o, none⟩).run P u = .ok (.agg cs.toArray) u :=
  run_loadVar_mid u B o T cs d h hu hd hi
def setL (C : Array Value) : Nat → List Value → Array Value
  | _, [] => C
  | o, v :: vs => setL (C.setIfInBounds o v) (o + 1) vs
theorem block_setCell {u : World} {B : Nat} {C : Array Value} {T : TypeId} (h : u.heap[B]? = some (.cells C T (0, 0))) (o : Nat) (v : Value) : (u.setCell ⟨B, o, none⟩ v).heap[B]? = some (.cells (C.setIfInBounds o v) T (0, 0)) := by
  unfold World.setCell
  simp only [Array.getElem?_modify]
  rw [h]
  simp
theorem block_setCells {B : Nat} {T : TypeId} : ∀ (vs : List Value) (o : Nat) (u : World) (C : Array Value), u.heap[B]? = some (.cells C T (0, 0)) → (u.setCells B o vs).heap[B]? = some (.cells (setL C o vs) T (0, 0))
  | [], _, _, _, h => h
  | v :: vs, o, _, _, h => block_setCells vs (o + 1) _ _ (block_setCell h o v)
theorem other_setCell {u : World} {B k : Nat} (hk : k ≠ B) (o : Nat) (v : Value) : (u.setCell ⟨B, o, none⟩ v).heap[k]? = u.heap[k]? := by
  unfold World.setCell
  simp only [Array.getElem?_modify]
  exact if_neg (fun e => hk e.symm)
theorem other_setCells {B k : Nat} (hk : k ≠ B) : ∀ (vs : List Value) (o : Nat) (u : World), (u.setCells B o vs).heap[k]? = u.heap[k]?
  | [], _, _ => rfl
  | v :: vs, o, _ => (other_setCells hk vs (o + 1) _).trans (other_setCell hk o v)
theorem results_cell_tmp {P : Program} {fn : Func} {a b : Nat} {T : TypeId} {tmps : Array Value} {p : Addr} {c v : Value} {u : World} (hr : fn.results = #[.cell a T, .tmp b]) (ha : tmps.getD a undef = .pointer (some p)) (hb : tmps.getD b undef = v) (hl : (loadVar T p).run P u = .ok c u) : (results fn tmps).run P u = .ok (.tuple #[c, v]) u := by
  have h : results fn tmps = (do
      let x ← (do loadVar T (← asAddr (tmps.getD a undef)))
      let y ← pure (tmps.getD b undef)
      pure (.tuple #[x, y])) := by
    unfold results
    rw [hr]
    simp
  rw [h, ha, hb]
  simp only [asAddr, Sem.run_bind, Sem.run_pure, Result.andThen, hl]
end Go.Proofs.Ytbbegbaaefgikaa
