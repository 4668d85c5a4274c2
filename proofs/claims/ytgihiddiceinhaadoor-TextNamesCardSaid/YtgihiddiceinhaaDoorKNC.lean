import Derived.Deep.MidRow
import Derived.Test.YtgihiddiceinhaaDoorKNB
namespace Go.Proofs.YtgihiddiceinhaaDoor
open Go.ChangeShapes Go.WideShapes Go.ChangeAt Go.RowKit
theorem addr_add (b o j : Nat) : (⟨b, o, none⟩ : Addr).add j = ⟨b, o + j, none⟩ := by unfold Addr.add; split <;> simp_all
theorem slc_new {k : IntKind} (w : World) (C : Array Value) (T : TypeId) (L cap : Nat) (bs : Nat → Int) (hL : L ≤ cap) (h : ∀ i, i < L → C[i]? = some (.int k (bs i))) : Slc k (w.alloc (.cells C T)) (.slice (some ⟨w.heap.size, 0, none⟩) L cap) L bs :=
  .inr ⟨_, _, rfl, hL, fun i hi => by rw [addr_add, Nat.zero_add, World.cell?_alloc_new, h i hi]⟩
theorem below_step {w a b : World} (h : Below w.heap.size w a) (k : Below a.heap.size a b) : Below w.heap.size w b := h.trans (k.mono h.size)
def lst (l : List Int) : Nat → Int := fun i => l.getD i 0
def putOk (reg : Int) (o : Opd) : Prop := 0 ≤ reg ∧ reg < 8 ∧ (regOk o ∨ memOk o)
instance (reg : Int) (o : Opd) : Decidable (putOk reg o) := by unfold putOk; infer_instance
theorem rmV_some {L : Nat} {bs : Nat → Int} {o : Opd} {r : Int} {n : Nat} (h : rmF L bs = some (o, r, n)) : rmV L bs = .tuple #[.agg #[.int .i64 o.kind, .int .i64 o.reg, .int .i64 o.base, .int .i64 o.index, .int .i64 o.scale, .int .u32 o.disp], .int .i64 r, .int .i64 n, .int .i64 0] := by unfold rmV; rw [h]
theorem rmV_none {L : Nat} {bs : Nat → Int} (h : rmF L bs = none) : rmV L bs = .tuple #[.agg #[.int .i64 0, .int .i64 0, .int .i64 0, .int .i64 0, .int .i64 0, .int .u32 0], .int .i64 0, .int .i64 0, .int .i64 21] := by unfold rmV; rw [h]
theorem cell_block {u : World} {B : Nat} {C : Array Value} {T : TypeId} (h : u.heap[B]? = some (.cells C T (0, 0))) (j : Nat) : u.cell? ⟨B, j, none⟩ = C[j]? ∧ u.frozen? ⟨B, j, none⟩ = false := by
  unfold World.cell? World.frozen?
  simp only
  rw [h]
  simp
theorem range_block {u : World} {B : Nat} {C : Array Value} {T : TypeId} (h : u.heap[B]? = some (.cells C T (0, 0))) : u.rangeAt B 0 C.toList := fun j v hv => by
  rw [Nat.zero_add, (cell_block h j).1]
  simpa using hv
theorem there_block {u : World} {B : Nat} {C : Array Value} {T : TypeId} (h : u.heap[B]? = some (.cells C T (0, 0))) (o n : Nat) (hn : o + n ≤ C.size) : u.there B o n := fun j hj => by
  rw [(cell_block h (o + j)).1, (cell_block h (o + j)).2, Array.getElem?_eq_getElem (by omega)]
  exact ⟨rfl, rfl⟩
theorem below_setCells {n : Nat} {a : World} {B : Nat} (hB : n ≤ B) : ∀ (vs : List Value) (o : Nat) (u : World), Below n a u → Below n a (u.setCells B o vs)
  | [], _, _, h => h
  | v :: vs, o, u, h => below_setCells hB vs (o + 1) _ (h.setCell (by exact hB) v)
theorem load_range {P : Program} {u : World} {B o : Nat} {cs : List Value} (T : TypeId) (d : TypeDesc) (hu : P.underlying T = some d) (hd : d.isRow = true) (hi : (P.info? T).map (·.size) = some cs.length) (h : u.rangeAt B o cs) : (loadVar T ⟨B, o, none⟩).run P u = .ok (.agg cs.toArray) u :=
  run_loadVar_mid u B o T cs d h hu hd hi
def setL (C : Array Value) : Nat → List Value → Array Value
  | _, [] => C
  | o, v :: vs => setL (C.setIfInBounds o v) (o + 1) vs
theorem block_setCell {u : World} {B : Nat} {C : Array Value} {T : TypeId} (h : u.heap[B]? = some (.cells C T (0, 0))) (o : Nat) (v : Value) : (u.setCell ⟨B, o, none⟩ v).heap[B]? = some (.cells (C.setIfInBounds o v) T (0, 0)) := by
  unfold World.setCell
  simp only [Array.getElem?_modify]
  rw [h]
  simp
theorem block_setCells {B : Nat} {T : TypeId} : ∀ (vs : List Value) (o : Nat) (u : World) (C : Array Value), u.heap[B]? = some (.cells C T (0, 0)) → (u.setCells B o vs).heap[B]? = some (.cells (setL C o vs) T (0, 0))
  | [], _, _, _, h => h
  | v :: vs, o, _, _, h => block_setCells vs (o + 1) _ _ (block_setCell h o v)
theorem setL_3 (v0 v1 v2 v3 v4 v5 v6 v7 v8 v9 v10 v11 v12 v13 v14 v15 v16 v17 a b c d e f : Value) : setL #[v0, v1, v2, v3, v4, v5, v6, v7, v8, v9, v10, v11, v12, v13, v14, v15, v16, v17] 3 [a, b, c, d, e, f] = #[v0, v1, v2, a, b, c, d, e, f, v9, v10, v11, v12, v13, v14, v15, v16, v17] := rfl
theorem setL_9 (v0 v1 v2 v3 v4 v5 v6 v7 v8 v9 v10 v11 v12 v13 v14 v15 v16 v17 a b c d e f : Value) : setL #[v0, v1, v2, v3, v4, v5, v6, v7, v8, v9, v10, v11, v12, v13, v14, v15, v16, v17] 9 [a, b, c, d, e, f] = #[v0, v1, v2, v3, v4, v5, v6, v7, v8, a, b, c, d, e, f, v15, v16, v17] := rfl
theorem other_setCell {u : World} {B k : Nat} (hk : k ≠ B) (o : Nat) (v : Value) : (u.setCell ⟨B, o, none⟩ v).heap[k]? = u.heap[k]? := by
  unfold World.setCell
  simp only [Array.getElem?_modify]
  exact if_neg (fun e => hk e.symm)
theorem other_setCells {B k : Nat} (hk : k ≠ B) : ∀ (vs : List Value) (o : Nat) (u : World), (u.setCells B o vs).heap[k]? = u.heap[k]?
  | [], _, _ => rfl
  | v :: vs, o, _ => (other_setCells hk vs (o + 1) _).trans (other_setCell hk o v)
theorem results_cell_tmp {P : Program} {fn : Func} {a b : Nat} {T : TypeId} {tmps : Array Value} {p : Addr} {c v : Value} {u : World} (hr : fn.results = #[.cell a T, .tmp b]) (ha : tmps.getD a undef = .pointer (some p)) (hb : tmps.getD b undef = v) (hl : (loadVar T p).run P u = .ok c u) : (results fn tmps).run P u = .ok (.tuple #[c, v]) u := by
  have h : results fn tmps = (do
      let x ← (do loadVar T (← asAddr (tmps.getD a undef)))
      let y ← pure (tmps.getD b undef)
      pure (.tuple #[x, y])) := by
    unfold results
    rw [hr]
    simp
  rw [h, ha, hb]
  simp only [asAddr, Sem.run_bind, Sem.run_pure, Result.andThen, hl]
theorem store_row {P : Program} {ops : Array Oper} {rest : List Oper} {op : Oper} {a : Act} {w : World} {Q : Exit → Act → World → Prop} (hgd : op.guard = none) (T : TypeId) (x y : Operand) (ho : op.op = .store T x y)
    (R : Nat) (hx : a.eval x = .pointer (some ⟨R, 0, none⟩)) (C : List Value) (hy : a.eval y = .agg C.toArray) (d : TypeDesc) (hu : P.underlying T = some d) (hd : d.isRow = true) (hi : (P.info? T).map (·.size) = some C.length) (h1 : C.toArray.all (·.oneCell') = true) (ht : w.there R 0 C.length)
    (hK : ∀ Y, Y = w.setCells R 0 C → (loadVar T ⟨R, 0, none⟩).run P Y = .ok (.agg C.toArray) Y → wpList P ops Q rest (a.put op.dst undef) Y) : wpList P ops Q (op :: rest) a w := by
  refine wpList_store_mid hgd T x y ho R 0 C.toArray hx hy (by simpa using ht) (by simpa using hi) h1 ?_
  have hr := World.rangeAt_setCells_same w R 0 C ht
  have hl := load_range (P := P) T d hu hd hi hr
  exact hK _ rfl hl
theorem info_opd1 : (Tryd.prog.info? 27).map (·.size) = some 6 := by kernel_rfl
def opL' (o : Opd) : List Value := [.int .i64 o.kind, .int .i64 o.reg, .int .i64 o.base, .int .i64 o.index, .int .i64 o.scale, .int .u32 o.disp]
theorem store_opd {ops : Array Oper} {rest : List Oper} {op : Oper} {a : Act} {w : World} {Q : Exit → Act → World → Prop} (hgd : op.guard = none) (x y : Operand) (ho : op.op = .store 27 x y)
    (R : Nat) (hx : a.eval x = .pointer (some ⟨R, 0, none⟩)) (q : Opd) (hy : a.eval y = opV q) (ht : w.there R 0 6)
    (hK : ∀ Y, Y = w.setCells R 0 (opL' q) → (loadVar 27 ⟨R, 0, none⟩).run Tryd.prog Y = .ok (opV q) Y → wpList Tryd.prog ops Q rest (a.put op.dst undef) Y) : wpList Tryd.prog ops Q (op :: rest) a w :=
  store_row hgd _ x y ho R hx (opL' q) hy _ Tryd.underlying27 rfl info_opd1 (by simp [opL', Value.oneCell']) ht hK
theorem there_alloc_new (w : World) (C : Array Value) (T : TypeId) (n : Nat) (hn : n ≤ C.size) : (w.alloc (.cells C T)).there w.heap.size 0 n := by
  have h : (w.alloc (.cells C T)).heap[w.heap.size]? = some (.cells C T (0, 0)) := by
    show (w.heap.push _)[w.heap.size]? = _
    simp
  exact there_block h 0 n (by omega)
theorem there_but {F : Nat → Prop} {w w' : World} {R o n : Nat} (h : But F w w') (hn : ¬ F R) (hR : R < w.heap.size) (ht : w.there R o n) : w'.there R o n := fun j hj => by
  have hb := h.block R hR hn
  rw [World.cell?_of_block (a := ⟨R, o + j, none⟩) hb, World.frozen?_of_block (a := ⟨R, o + j, none⟩) hb]
  exact ht j hj
theorem there_alloc {w : World} {R n : Nat} (o : Obj) (hR : R < w.heap.size) (ht : w.there R 0 n) : (w.alloc o).there R 0 n :=
  there_but (F := fun _ => False) ((But.refl _ w).alloc o) (fun h => h) hR ht
theorem But.cells {F : Nat → Prop} {w w' : World} (h : But F w w') {R : Nat} (hR : R < w.heap.size → F R) : ∀ (vs : List Value) (o : Nat), But F w (w'.setCells R o vs) := by
  intro vs
  induction vs generalizing w' with
  | nil => intro o; exact h
  | cons v vs ih => intro o; exact ih (h.setCell (a := ⟨R, o, none⟩) hR v) (o + 1)
theorem setCells_size (R : Nat) : ∀ (vs : List Value) (o : Nat) (w : World), (w.setCells R o vs).heap.size = w.heap.size
  | [], _, _ => rfl
  | v :: vs, o, w => (setCells_size R vs (o + 1) _).trans (by simp [World.setCell])
end Go.Proofs.YtgihiddiceinhaaDoor
