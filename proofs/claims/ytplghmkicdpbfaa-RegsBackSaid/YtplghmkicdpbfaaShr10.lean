/- Small things that the document's decoder and the landed one share. -/
import Derived.Test.YtplghmkicdpbfaaAnsw
import Derived.Test.YtplghmkicdpbfaaInsL
import Derived.Deep.MidRow
import Derived.Deep.RegionWith
namespace Go.Proofs.Ytplghmkicdpbfaa
open Go.ChangeShapes Go.WideShapes Go.ChangeAt Go.RowKit

/-- where the rest begins -/
def cutA (ad : Addr) (cap s : Nat) : Addr := if cap = s then ad else ad.add s
theorem slc_tail {w : World} {ad : Addr} {M cap : Nat} {bs : Nat → Int} (hc : ∀ i, i < M → w.cell? (ad.add i) = some (.int .u8 (bs i))) (hl : M ≤ cap) (k : Nat) (hk : k ≤ M) : Slc .u8 w (.slice (some (cutA ad cap k)) (M - k) (cap - k)) (M - k) (fun i => bs (k + i)) := by
  refine .inr ⟨_, _, rfl, by omega, fun i hi => ?_⟩
  rw [← hc (k + i) (by omega)]
  unfold cutA
  rw [if_neg (by omega)]
  congr 1
  unfold Addr.add
  by_cases h0 : k = 0
  · subst h0; simp
  · by_cases hi0 : i = 0
    · subst hi0; simp [h0]
    · rw [if_neg h0, if_neg hi0, if_neg (by omega)]; simp [Nat.add_assoc]
theorem range_but {F : Nat → Prop} {w w' : World} {R o : Nat} {cs : List Value} (h : But F w w') (hn : ¬ F R) (hr : w.rangeAt R o cs) : w'.rangeAt R o cs := fun j v hv => h.cell (hr j v hv) hn
theorem range_alloc {w : World} {R o : Nat} {cs : List Value} (x : Obj) (hr : w.rangeAt R o cs) (hR : R < w.heap.size) : (w.alloc x).rangeAt R o cs := fun j v hv => (World.cell?_alloc_lt w x ⟨R, o + j, none⟩ hR).trans (hr j v hv)
theorem heap_top0 (w : World) (o : Obj) (B : Nat) (h : B = w.heap.size) : (w.alloc o).heap[B]? = some o := by subst h; show (w.heap.push o)[w.heap.size]? = _; simp
theorem opd_one (o : Opd) : (opL' o).toArray.all (·.oneCell') = true := by simp [opL', Value.oneCell']
theorem store_mid {P : Program} {ops : Array Oper} {rest : List Oper} {op : Oper} {a : Act} {w : World} {Q : Exit → Act → World → Prop} (hgd : op.guard = none) (T : TypeId) (x y : Operand) (ho : op.op = .store T x y)
    (R o : Nat) (hx : a.eval x = .pointer (some ⟨R, o, none⟩)) (C : List Value) (hy : a.eval y = .agg C.toArray) (hi : (P.info? T).map (·.size) = some C.length) (h1 : C.toArray.all (·.oneCell') = true) (ht : w.there R o C.length)
    (hK : ∀ Y, Y = w.setCells R o C → wpList P ops Q rest (a.put op.dst undef) Y) : wpList P ops Q (op :: rest) a w := by
  refine wpList_store_mid hgd T x y ho R o C.toArray hx hy (by simpa using ht) (by simpa using hi) h1 ?_
  exact hK _ rfl
end Go.Proofs.Ytplghmkicdpbfaa
