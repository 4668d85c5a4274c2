/- A struct that a call answers: stored whole, read whole. -/
import Derived.Test.YtbbegbaaefgikaaStruct
import Derived.Test.YtbbegbaaefgikaaOwn
namespace Go.Proofs.Ytbbegbaaefgikaa
set_option maxRecDepth 100000
open Go.ChangeShapes Go.WideShapes Go.ChangeAt Go.RowKit

theorem store_row {P : Program} {ops : Array Oper} {rest : List Oper} {op : Oper} {a : Act} {w : World} {Q : Exit → Act → World → Prop} (hgd : op.guard = none) (T : TypeId) (x y : Operand) (ho : op.op = .store T x y)
    (R : Nat) (hx : a.eval x = .pointer (some ⟨R, 0, none⟩)) (C : List Value) (hy : a.eval y = .agg C.toArray) (d : TypeDesc) (hu : P.underlying T = some d) (hd : d.isRow = true) (hi : (P.info? T).map (·.size) = some C.length) (h1 : C.toArray.all (·.oneCell') = true) (ht : w.there R 0 C.length)
    (hK : ∀ Y, Y = w.setCells R 0 C → (loadVar T ⟨R, 0, none⟩).run P Y = .ok (.agg C.toArray) Y → wpList P ops Q rest (a.put op.dst undef) Y) : wpList P ops Q (op :: rest) a w := by
  refine wpList_store_mid hgd T x y ho R 0 C.toArray hx hy (by simpa using ht) (by simpa using hi) h1 ?_
  have hr := World.rangeAt_setCells_same w R 0 C ht
  have hl := load_range (P := P) T d hu hd hi hr
  exact hK _ rfl hl
theorem results_cell {P : Program} {fn : Func} {a : Nat} {T : TypeId} {tmps : Array Value} {p : Addr} {c : Value} {u : World} (hr : fn.results = #[.cell a T]) (ha : tmps.getD a undef = .pointer (some p)) (hl : (loadVar T p).run P u = .ok c u) : (results fn tmps).run P u = .ok c u := by
  have h : results fn tmps = (do loadVar T (← asAddr (tmps.getD a undef))) := by
    unfold results
    rw [hr]
    simp
  rw [h, ha]
  simp only [asAddr, Sem.run_bind, Sem.run_pure, Result.andThen, hl]
theorem info_opd1 : (Try.prog.info? 32).map (·.size) = some 6 := by kernel_rfl
def opL' (o : Opd) : List Value := [.int .i64 o.kind, .int .i64 o.reg, .int .i64 o.base, .int .i64 o.index, .int .i64 o.scale, .int .u32 o.disp]
/-- an operand is stored -/
theorem store_opd {ops : Array Oper} {rest : List Oper} {op : Oper} {a : Act} {w : World} {Q : Exit → Act → World → Prop} (hgd : op.guard = none) (x y : Operand) (ho : op.op = .store 32 x y)
    (R : Nat) (hx : a.eval x = .pointer (some ⟨R, 0, none⟩)) (q : Opd) (hy : a.eval y = opV q) (ht : w.there R 0 6)
    (hK : ∀ Y, Y = w.setCells R 0 (opL' q) → (loadVar 32 ⟨R, 0, none⟩).run Try.prog Y = .ok (opV q) Y → wpList Try.prog ops Q rest (a.put op.dst undef) Y) : wpList Try.prog ops Q (op :: rest) a w :=
  store_row hgd _ x y ho R hx (opL' q) hy _ Try.underlying32 rfl info_opd1 (by simp [opL', Value.oneCell']) ht hK
theorem there_alloc_new (w : World) (C : Array Value) (T : TypeId) (n : Nat) (hn : n ≤ C.size) : (w.alloc (.cells C T)).there w.heap.size 0 n := by
  have h : (w.alloc (.cells C T)).heap[w.heap.size]? = some (.cells C T (0, 0)) := by
    show (w.heap.push _)[w.heap.size]? = _
    simp
  exact there_block h 0 n (by omega)
theorem there_but {F : Nat → Prop} {w w' : World} {R o n : Nat} (h : But F w w') (hn : ¬ F R) (hR : R < w.heap.size) (ht : w.there R o n) : w'.there R o n := fun j hj => by
  have hb := h.block R hR hn
  rw [World.cell?_of_block (a := ⟨R, o + j, none⟩) hb, World.frozen?_of_block (a := ⟨R, o + j, none⟩) hb]
  exact ht j hj
theorem there_alloc {w : World} {R n : Nat} (o : Obj) (hR : R < w.heap.size) (ht : w.there R 0 n) : (w.alloc o).there R 0 n :=
  there_but (F := fun _ => False) ((But.refl _ w).alloc o) (fun h => h) hR ht
theorem But.cells {F : Nat → Prop} {w w' : World} (h : But F w w') {R : Nat} (hR : R < w.heap.size → F R) : ∀ (vs : List Value) (o : Nat), But F w (w'.setCells R o vs) := by
  intro vs
  induction vs generalizing w' with
  | nil => intro o; exact h
  | cons v vs ih => intro o; exact ih (h.setCell (a := ⟨R, o, none⟩) hR v) (o + 1)
theorem setCells_size (R : Nat) : ∀ (vs : List Value) (o : Nat) (w : World), (w.setCells R o vs).heap.size = w.heap.size
  | [], _, _ => rfl
  | v :: vs, o, w => (setCells_size R vs (o + 1) _).trans (by simp [World.setCell])
/-- likewise behind a block that was made, and a draw -/
theorem load_opd {w : World} {R : Nat} (hR : R < w.heap.size) (ht : w.there R 0 6) (q : Opd) (o : Obj) :
    (loadVar 32 ⟨R, 0, none⟩).run Try.prog ((w.setCells R 0 (opL' q)).alloc o).drew = .ok (opV q) ((w.setCells R 0 (opL' q)).alloc o).drew := by
  have hr := World.rangeAt_setCells_same w R 0 (opL' q) ht
  have hs : R < (w.setCells R 0 (opL' q)).heap.size := by rw [setCells_size]; exact hR
  generalize w.setCells R 0 (opL' q) = X at hr hs ⊢
  have hr' : ((X.alloc o).drew).rangeAt R 0 (opL' q) := fun j v hv => (World.cell?_alloc_lt X o ⟨R, 0 + j, none⟩ hs).trans (hr j v hv)
  exact load_range (P := Try.prog) (cs := opL' q) 32 _ Try.underlying32 rfl info_opd1 hr'
end Go.Proofs.Ytbbegbaaefgikaa
