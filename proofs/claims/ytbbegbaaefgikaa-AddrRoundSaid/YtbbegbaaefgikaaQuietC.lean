/- A region whose order is drawn that only reads and calls, in any class of worlds that its calls keep: one walk serves every order. -/
import Derived.BigQuiet
import Derived.Deep.QuietTactic
import Derived.Deep.MidRow
namespace Go.Proofs.Ytbbegbaaefgikaa
set_option maxRecDepth 100000
open Go
section
variable {P : Program} {C : World → Prop} {K : Act → Prop} {a : Act} {d : Option Tmp} {ty : TypeId} {pos : String} {af : Array Edge} {g : Option (Nat × Bool)}
theorem run_mv (v : Value) (u : World) : (execOp a.eval (Oper.mk d (.move (.const v)) ty pos af g)).run P u = .ok (.value v) u := by
  unfold execOp
  simp [Act.eval]
theorem quietC_val (op : Op) (v : Value) (h : ∀ u, C u → (execOp a.eval (Oper.mk d op ty pos af g)).run P u = .ok (.value v) u) (hK : (Oper.mk d (.move (.const v)) ty pos af g).quiet P a C K) : (Oper.mk d op ty pos af g).quiet P a C K := by
  obtain ⟨v', h1, h2⟩ := hK
  by_cases hne : ∃ u, C u
  · obtain ⟨u, hu⟩ := hne
    have h3 := h1 u hu
    unfold Oper.quietAt at h3
    rw [run_mv] at h3
    obtain ⟨_, rfl⟩ := h3
    exact ⟨_, fun u hu => by unfold Oper.quietAt; rw [h u hu]; exact ⟨rfl, rfl⟩, h2⟩
  · exact ⟨v', fun u hu => absurd ⟨u, hu⟩ hne, h2⟩
theorem quietC_call (f : FuncId) (ags : Array Operand) (ts : Array TypeId) (args : Array Value) (v : Value) (h : ∀ u, C u → (execOp a.eval (Oper.mk d (.call { callee := .value (.func f), args := ags, argTypes := ts }) ty pos af g)).run P u = .ok (.enter f args) u) (hc : ∀ u, C u → Calls P f args u fun e u' => e = .returned v ∧ C u') (hK : (Oper.mk d (.move (.const v)) ty pos af g).quiet P a C K) : (Oper.mk d (.call { callee := .value (.func f), args := ags, argTypes := ts }) ty pos af g).quiet P a C K := by
  obtain ⟨v', h1, h2⟩ := hK
  by_cases hne : ∃ u, C u
  · obtain ⟨u, hu⟩ := hne
    have h3 := h1 u hu
    unfold Oper.quietAt at h3
    rw [run_mv] at h3
    obtain ⟨_, rfl⟩ := h3
    exact ⟨_, fun u hu => by unfold Oper.quietAt; rw [h u hu]; exact ⟨rfl, hc u hu⟩, h2⟩
  · exact ⟨v', fun u hu => absurd ⟨u, hu⟩ hne, h2⟩
/-- what is read there -/
theorem quietC_read (t : TypeId) (x : Operand) (v : Value) (hl : ∀ u, C u → (Instr.loadAt t (a.eval x)).run P u = .ok v u) (hK : (Oper.mk d (.move (.const v)) ty pos af g).quiet P a C K) : (Oper.mk d (.load t x) ty pos af g).quiet P a C K :=
  quietC_val _ v (fun u hu => by
    unfold execOp
    simp only [Sem.run_bind, hl u hu, Result.andThen_ok, Sem.run_pure]) hK
theorem quietC_load (t : TypeId) (x : Operand) (b off : Nat) (hx : a.eval x = .pointer (some ⟨b, off, none⟩)) (cs : List Value) (e : TypeDesc) (hC : ∀ u, C u → u.rangeAt b off cs) (hu : P.underlying t = some e) (hd : e.isRow = true) (hi : (P.info? t).map (·.size) = some cs.length) (hK : (Oper.mk d (.move (.const (.agg cs.toArray))) ty pos af g).quiet P a C K) : (Oper.mk d (.load t x) ty pos af g).quiet P a C K :=
  quietC_read t x (.agg cs.toArray) (fun u hu' => by rw [hx]; exact run_loadAt_mid (P := P) u b off t cs e (hC u hu') hu hd hi) hK
/-- the region's operations are written out -/
theorem wp_region_quietC {id : Nat} {Q : Exit → Act → World → Prop} {w : World} {l : List Oper} (C : World → Prop) (hm : P.follows .mixedOrders = true) (hB : Region.lexB .any l.toArray = true) (hC : C { w with drawn := w.drawn + 1 })
    (h : wpQuiet P l.toArray C (fun a' => ∀ w', C w' → Q .normal a' w') l a) : (Code.region id l.toArray true).wp P Q a w :=
  wp_region_quiet (C := C) hm hB hC (by simpa using h)
/-- a part of the test of a long region: so many operations, from one on -/
def lexTo (md : Region.Mode) (ops : Array Oper) : Nat → Nat → Array Bool → Option (Array Bool)
  | 0, _, l => some l
  | n + 1, k, l => if (Region.ready md ops l).contains k && Region.free md ops l k then lexTo md ops n (k + 1) (l.setIfInBounds k true) else none
theorem lexFrom_add {md : Region.Mode} {ops : Array Oper} {m : Nat} : ∀ {n k : Nat} {l l' : Array Bool}, lexTo md ops n k l = some l' → Region.lexFrom md ops m (k + n) l' = true → Region.lexFrom md ops (m + n) k l = true
  | 0, k, l, l', h, hm => by cases h; exact hm
  | n + 1, k, l, l', h, hm => by
    unfold lexTo at h
    split at h
    · rename_i hc
      show ((Region.ready md ops l).contains k && Region.free md ops l k && Region.lexFrom md ops (m + n) (k + 1) (l.setIfInBounds k true)) = true
      rw [hc, Bool.true_and]
      exact lexFrom_add h (by rw [show k + 1 + n = k + (n + 1) by omega]; exact hm)
    · cases h
theorem lexB_of {md : Region.Mode} {ops : Array Oper} (n : Nat) (hn : ops.size = n) (hs : Region.noSelect ops = true) (h : Region.lexFrom md ops n 0 (Array.replicate n false) = true) : Region.lexB md ops = true := by
  subst hn
  unfold Region.lexB
  rw [hs, h]
  rfl
/-- so many are listed -/
def lset (n m : Nat) : Array Bool := ((List.range n).map fun i => decide (i < m)).toArray
/-- the operations of a function's region -/
def regionOf (n : Nat) : Code → Option (Array Oper)
  | .region id ops _ => if id = n then some ops else none
  | .seq a b => match regionOf n a with
    | some r => some r
    | none => regionOf n b
  | .cond _ a b => match regionOf n a with
    | some r => some r
    | none => regionOf n b
  | .loop c => regionOf n c
  | .block _ c => regionOf n c
  | .scope c => regionOf n c
  | _ => none
theorem class_const {C : World → Prop} {w : World} (h : C w) (p : Prop) : (∀ u, C u → p) = p := propext ⟨fun k => k w h, fun k _ _ => k⟩
end
end Go.Proofs.Ytbbegbaaefgikaa
