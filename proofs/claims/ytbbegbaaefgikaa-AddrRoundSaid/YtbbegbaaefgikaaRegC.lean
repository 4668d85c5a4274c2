/- What the landed registers answer, as a property of a function; states stored, read, compared. -/
import Derived.Test.YtbbegbaaefgikaaRef13s
import Derived.Test.YtbbegbaaefgikaaEqSta
import Derived.Test.YtbbegbaaefgikaaQuietC
import Derived.Great.BuildSlice
namespace Go.Proofs.Ytbbegbaaefgikaa
set_option maxRecDepth 100000
open Go.ChangeShapes Go.WideShapes Go.ChangeAt Go.RowKit

theorem sta_guard1 : Try.prog.eqGuardType Try.prog.depth 29 = false := by kernel_rfl
theorem quietC_ne_sta {C : World → Prop} {K : Act → Prop} {a : Act} {d : Option Tmp} {ty : TypeId} {pos : String} {af : Array Edge} {g : Option (Nat × Bool)} (x y : Operand) (s : Sta) (hs : WfS s) (hx : a.eval x = staV s) (hy : a.eval y = staV s) (hK : (Oper.mk d (.move (.const (.bool false))) ty pos af g).quiet Try.prog a C K) : (Oper.mk d (.binOp .neq 29 x y 29) ty pos af g).quiet Try.prog a C K :=
  quietC_val _ (.bool false) (fun u _ => by
    have hg : (eqGuard .neq 29 x y (staV s) (staV s)).run Try.prog u = .ok () u := run_eqGuard_agg u .neq 29 x y _ _ sta_guard1
    have he : (binOp .neq 29 (staV s) (staV s)).run Try.prog u = .ok (.bool false) u := sta_same u s hs
    unfold execOp
    simp only [Sem.run_bind, hx, hy, hg, he, Result.andThen_ok, Sem.run_pure]) hK
/-- what the landed package answers -/
def getG (s : Sta) (o : Opd) : Int := if 0 ≤ o.reg ∧ o.reg ≤ 7 then getF s o else 0
theorem getG_in (s : Sta) (o : Opd) (h : 0 ≤ o.reg ∧ o.reg ≤ 7) : getG s o = getF s o := if_pos h
def GetC (f : FuncId) : Prop := ∀ (s : Sta) (o : Opd), StaOk s → 0 ≤ o.disp → o.disp < 4294967296 → ∀ w : World, Calls Try.prog f #[staV s, opV o] w fun e w' => e = .returned (.int .u64 (getG s o)) ∧ Below w.heap.size w w'
def SetC (f : FuncId) : Prop := ∀ (s : Sta) (o : Opd) (v : Int), StaOk s → 0 ≤ v → v < 18446744073709551616 → ∀ w : World, Calls Try.prog f #[staV s, opV o, .int .u64 v] w fun e w' => e = .returned (staV (setF s o v)) ∧ Below w.heap.size w w'
theorem wf_ok {s : Sta} (h : WfS s) : StaOk s := by
  refine ⟨fun i hi => ?_, fun i hi => ?_, ?_⟩
  · have := bounds_u32 (h.r i hi); omega
  · have := bounds_u64 (h.x i hi); omega
  · have := bounds_u32 h.ip; omega
theorem ok_wf {s : Sta} (h : StaOk s) : WfS s := by
  refine ⟨fun i hi => ?_, ?_, fun i hi => ?_⟩
  · have := h.r i hi; exact WalkArith.wf_u32 (by omega)
  · have := h.ip; exact WalkArith.wf_u32 (by omega)
  · have := h.x i hi; exact WalkArith.wf_u64 (by omega)
theorem put_ok {g : Nat → Int} {M y : Int} (hg : ∀ i, i < 8 → 0 ≤ g i ∧ g i < M) (hy : 0 ≤ y ∧ y < M) (k : Nat) : ∀ i, i < 8 → 0 ≤ putN g k y i ∧ putN g k y i < M := fun i hi => by
  unfold putN
  split
  · exact hy
  · exact hg i hi
theorem set_ok {s : Sta} (h : StaOk s) (o : Opd) (v : Int) (v0 : 0 ≤ v) (v1 : v < 18446744073709551616) : StaOk (setF s o v) := by
  have hp : ∀ k y, (0 ≤ y ∧ y < 4294967296) → StaOk { s with r := putN s.r k y } := fun k y hy => ⟨put_ok h.r hy k, h.x, h.ip⟩
  unfold setF
  split
  · split
    · exact hp _ _ (by omega)
    · split
      · refine hp _ _ ?_
        have hq := h.r (o.reg % 4).toNat (by omega)
        unfold byteF
        split <;> omega
      · split
        · exact ⟨h.r, put_ok h.x ⟨v0, v1⟩ _, h.ip⟩
        · exact h
  · exact h
def opTwo (k r v : Int) (o : Opd) : List Opd := [o, ⟨k % 7, r % 10 - 1, 0, 0, 0, v % 4294967296⟩]
theorem two_at (k r v : Int) (o : Opd) (ho : 0 ≤ o.disp ∧ o.disp < 4294967296) (m : Nat) (hm : m < 2) : ∃ q : Opd, (0 ≤ q.disp ∧ q.disp < 4294967296) ∧ (((opTwo k r v o).flatMap opL').drop (m * 6)).take 6 = opL' q := by
  rcases (show m = 0 ∨ m = 1 by omega) with rfl | rfl
  · exact ⟨o, ho, rfl⟩
  · exact ⟨⟨k % 7, r % 10 - 1, 0, 0, 0, v % 4294967296⟩, by show 0 ≤ v % 4294967296 ∧ v % 4294967296 < 4294967296; omega, rfl⟩
theorem range_in13 {u : World} {B : Nat} {C : Array Value} {T : TypeId} (h : u.heap[B]? = some (.cells C T (0, 0))) (o : Nat) (cs : List Value) (hc : (C.toList.drop o).take cs.length = cs) : u.rangeAt B o cs := fun i v hi => by
  have hl := (List.getElem?_eq_some_iff.1 hi).1
  rw [(cell_block h (o + i)).1]
  rw [← hc] at hi
  simpa [List.getElem?_take, List.getElem?_drop, hl] using hi
def zeroP6 : Array Value := #[.int .i64 0, .int .i64 0, .int .i64 0, .int .i64 0, .int .i64 0, .int .u32 0]
theorem setL_p6 (o : Opd) : setL zeroP6 0 (opL' o) = (opL' o).toArray := by kernel_rfl
theorem stored_p6 {w Y : World} {o : Opd} {T : TypeId} (hY : Y = (w.alloc (.cells zeroP6 T)).setCells w.heap.size 0 (opL' o)) : Y.rangeAt w.heap.size 0 (opL' o) ∧ Below w.heap.size w Y ∧ w.heap.size < Y.heap.size := by
  have hb : Y.heap[w.heap.size]? = some (.cells (opL' o).toArray T (0, 0)) := by
    have := block_setCells (T := T) (opL' o) 0 (w.alloc (.cells zeroP6 T)) zeroP6 (by show (w.heap.push _)[w.heap.size]? = _; simp)
    rw [setL_p6] at this
    rw [hY]
    exact this
  refine ⟨range_in13 hb 0 _ rfl, ?_, (Array.getElem?_eq_some_iff.1 hb).1⟩
  rw [hY]
  exact below_setCells (Nat.le_refl _) _ _ _ (below_last (Below.refl _ _) _)
end Go.Proofs.Ytbbegbaaefgikaa
