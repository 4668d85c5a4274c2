/- The document's decoder (package salternref9): One, what it wants. -/
import Derived.Deep.DeepCutAuto
import Derived.Test.YtlhfpfiehgcciaaKN
import Derived.Test.YtlhfpfiehgcciaaKRef10x1
import Derived.Test.YtlhfpfiehgcciaaKRef10x2
import Derived.Test.YtlhfpfiehgcciaaKRef10x3
import Derived.Test.YtlhfpfiehgcciaaKRef10x4
import Derived.Test.YtlhfpfiehgcciaaKU
import Derived.Test.YtlhfpfiehgcciaaKV
namespace Go.Proofs.Ytlhfpfiehgcciaa
open Go.ChangeShapes Go.WideShapes Go.ChangeAt Go.RowKit

def lets1 (c : UInt8) : Bool := c == 69 || c == 71 || c == 103 || c == 101 || c == 88 || c == 89
def lets2 (c : UInt8) : Bool := c == 71 || c == 69 || c == 76 || c == 66 || c == 73 || c == 98
def lets3 (c : UInt8) : Bool := c == 114 || c == 97 || c == 73 || c == 98 || c == 109
def lets4 (c : UInt8) : Bool := c == 105 || c == 119 || c == 69 || c == 49 || c == 99 || c == 98
/-- the operands of a row are among those that are walked -/
def howOk (l : List UInt8) : Bool := decide (l.length ≤ 100) && (l.all lets1 || l.all lets2 || l.all lets3 || l.all lets4)
theorem rmade_ok (i : Ins) (f : Frm) (rm : Opd) (reg : Int) (v : Value) (L : Nat) (bs : Nat → Int) (k0 : Nat) (hb : ∀ i, 0 ≤ bs i ∧ bs i < 256) (w : World) (hs : Slc .u8 w v L bs) (hL : L ≤ 1099511627776) (hk0 : k0 ≤ L) (hh : howOk f.how = true) :
    Calls Try.prog 27 #[insV i, frmV f, opV rm, .int .i64 reg, v, .int .i64 (k0 : Int)] w fun e w' => e = .returned (insR (madeF i f rm reg L bs k0)) ∧ Below w.heap.size w w' := by
  unfold howOk at hh
  simp only [Bool.and_eq_true, Bool.or_eq_true, decide_eq_true_eq, List.all_eq_true] at hh
  obtain ⟨hl, ((h | h) | h) | h⟩ := hh
  · exact rmade_1 i f rm reg v L bs k0 hb w hs hL hk0 hl (fun c hc => by have := h c hc; simp [lets1] at this; (rcases this with ((((h | h) | h) | h) | h) | h <;> simp [h]))
  · exact rmade_2 i f rm reg v L bs k0 hb w hs hL hk0 hl (fun c hc => by have := h c hc; simp [lets2] at this; (rcases this with ((((h | h) | h) | h) | h) | h <;> simp [h]))
  · exact rmade_3 i f rm reg v L bs k0 hb w hs hL hk0 hl (fun c hc => by have := h c hc; simp [lets3] at this; (rcases this with ((((h | h) | h) | h) | h) | h <;> simp [h]))
  · exact rmade_4 i f rm reg v L bs k0 hb w hs hL hk0 hl (fun c hc => by have := h c hc; simp [lets4] at this; (rcases this with ((((h | h) | h) | h) | h) | h <;> simp [h]))
def frmL (g : Frm) : List Value := [.int .i64 g.op, .int .i64 g.cond, .int .i64 g.size, .string ⟨g.how.toArray⟩, .int .i64 g.c]
theorem info_frm : (Try.prog.info? 55).map (·.size) = some 5 := by kernel_rfl
theorem frm_one (g : Frm) : (frmL g).toArray.all (·.oneCell') = true := by simp [frmL, Value.oneCell']
/-- what stands behind the row: all but the instruction -/
structure FInv (w : World) (g : Frm) (u : World) : Prop where
  below : Below w.heap.size w u
  frm : u.rangeAt (w.heap.size + 1) 0 (frmL g)
  res : u.there w.heap.size 0 18
theorem FInv.lt {w : World} {g : Frm} {u : World} (h : FInv w g u) : w.heap.size + 1 < u.heap.size := cell_lt (h.frm 0 _ rfl)
theorem FInv.ext {w : World} {g : Frm} {u u' : World} (h : FInv w g u) (hb : Below u.heap.size u u') : FInv w g u' :=
  ⟨h.below.trans (hb.mono h.below.size), range_but (F := fun _ => False) (But.of_below hb) (fun h => h) h.frm, there_but (F := fun _ => False) (But.of_below hb) (fun h => h) (by have := h.lt; omega) h.res⟩
theorem FInv.drawn {w : World} {g : Frm} {u : World} (h : FInv w g u) : FInv w g { u with drawn := u.drawn + 1 } := ⟨h.below.drew, h.frm, h.res⟩
theorem FInv.put {w : World} {g : Frm} {u : World} (h : FInv w g u) (k o : Nat) (hk : w.heap.size + 1 < k) (vs : List Value) : FInv w g (u.setCells k o vs) :=
  ⟨below_setCells (by omega) _ _ _ h.below, World.rangeAt_setCells_apart h.frm k o vs (.inl (by omega)), World.there_setCells h.res _ _ _⟩
theorem frm_cells {w : World} {g : Frm} {u : World} (h : FInv w g u) : u.cell? ⟨w.heap.size + 1, 0, none⟩ = some (.int .i64 g.op) ∧ u.cell? ⟨w.heap.size + 1, 1, none⟩ = some (.int .i64 g.cond) ∧ u.cell? ⟨w.heap.size + 1, 2, none⟩ = some (.int .i64 g.size) ∧ u.cell? ⟨w.heap.size + 1, 3, none⟩ = some (.string ⟨g.how.toArray⟩) :=
  ⟨h.frm 0 _ rfl, h.frm 1 _ rfl, h.frm 2 _ rfl, h.frm 3 _ rfl⟩
/-- what region 38 keeps -/
def SG (C : List Value) (u u' : World) : Prop := u.heap.size ≤ u'.heap.size ∧ (∀ k n, u.there k 0 n → u'.there k 0 n) ∧ (∀ k, u.rangeAt k 0 C → 0 < C.length → u'.rangeAt k 0 C)
theorem sg_refl {C : List Value} (u : World) : SG C u u := ⟨Nat.le_refl _, fun _ _ h => h, fun _ h _ => h⟩
theorem there_lt' {u : World} {k n : Nat} (h : u.there k 0 n) (hn : 0 < n) : k < u.heap.size := by
  obtain ⟨x, hx⟩ := Option.isSome_iff_exists.1 (h 0 hn).1
  exact cell_lt hx
theorem sg_below {C : List Value} {u u' : World} (hb : Below u.heap.size u u') : SG C u u' :=
  ⟨hb.size, fun k n h => by
    by_cases hn : 0 < n
    · exact there_but (F := fun _ => False) (But.of_below hb) (fun h => h) (there_lt' h hn) h
    · exact fun j hj => by omega, fun k h _ => range_but (F := fun _ => False) (But.of_below hb) (fun h => h) h⟩
theorem sg_put {C : List Value} {u : World} {k : Nat} (ht : u.there k 0 C.length) : SG C u (u.setCells k 0 C) := by
  refine ⟨by rw [setCells_size]; exact Nat.le_refl _, fun k' n h => World.there_setCells h _ _ _, fun k' h _ => ?_⟩
  by_cases hk : k' = k
  · subst hk; exact World.rangeAt_setCells_same u k' 0 C ht
  · exact World.rangeAt_setCells_apart h k 0 C (.inl hk)
def i0 (g : Frm) (rep : Bool) : Ins := ⟨g.op, g.cond, g.size, noneO, noneO, 0, rep, 0⟩
/-- the promises of region 38 -/
def SV (w : World) (g : Frm) (rep : Bool) : Nat → Value → Value → World → Prop
  | 0, v, _, _ => v = .pointer (some ⟨w.heap.size + 1, 0, none⟩)
  | 1, v, _, _ => v = .int .i64 g.op
  | 2, v, _, _ => v = .pointer (some ⟨w.heap.size + 1, 1, none⟩)
  | 3, v, _, _ => v = .int .i64 g.cond
  | 4, v, _, _ => v = .pointer (some ⟨w.heap.size + 1, 2, none⟩)
  | 5, v, _, _ => v = .int .i64 g.size
  | 6, v, _, _ => v = opV noneO
  | 7, v, _, _ => v = opV noneO
  | 8, v, _, _ => v = .bool rep
  | 9, v, _, _ => v = .agg (insL (i0 g rep)).toArray
  | 10, v, _, u => ∃ k, v = .pointer (some ⟨k, 0, none⟩) ∧ w.heap.size + 1 < k ∧ u.there k 0 18
  | 11, _, x, u => ∃ k, x = .pointer (some ⟨k, 0, none⟩) ∧ w.heap.size + 1 < k ∧ u.rangeAt k 0 (insL (i0 g rep))
  | _, _, _, _ => True
theorem sv_stays {w : World} {g : Frm} {rep : Bool} (i : Nat) (v x : Value) (u : World) (_ : Unit) (u' : World) (_ : Unit) (h : SV w g rep i v x u) (hg : SG (insL (i0 g rep)) u u') : SV w g rep i v x u' := by
  unfold SV at h ⊢
  split at h
  all_goals first
    | exact h
    | (obtain ⟨k, h1, h2, h3⟩ := h; exact ⟨k, h1, h2, hg.2.1 k 18 h3⟩)
    | (obtain ⟨k, h1, h2, h3⟩ := h; exact ⟨k, h1, h2, hg.2.2 k h3 (show 0 < 18 by decide)⟩)
theorem store_frm {ops : Array Oper} {rest : List Oper} {op : Oper} {a : Act} {w : World} {Q : Exit → Act → World → Prop} (hgd : op.guard = none) (x y : Operand) (ho : op.op = .store 55 x y)
    (R : Nat) (hx : a.eval x = .pointer (some ⟨R, 0, none⟩)) (q : Frm) (hy : a.eval y = frmV q) (ht : w.there R 0 5)
    (hK : ∀ Y, Y = w.setCells R 0 (frmL q) → wpList Try.prog ops Q rest (a.put op.dst undef) Y) : wpList Try.prog ops Q (op :: rest) a w :=
  store_mid hgd _ x y ho R 0 hx (frmL q) hy info_frm (frm_one q) ht hK
theorem behF_bd (L : Nat) (bs : Nat → Int) (k : Nat) : -1 ≤ behF L bs k ∧ behF L bs k < 8 := by unfold behF; split <;> omega
theorem below_undrewN {W u : World} {nq : Nat} (h : Below (W.drewN nq).heap.size (W.drewN nq) u) : Below W.heap.size W u := by
  rw [drewN_size] at h
  exact (below_drN (Below.refl _ W) nq).trans h
end Go.Proofs.Ytlhfpfiehgcciaa
