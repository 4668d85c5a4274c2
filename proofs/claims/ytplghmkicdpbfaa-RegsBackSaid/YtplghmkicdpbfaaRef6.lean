/- The document's own memory (package salternref6): bytes that were set, in a map. -/
import Derived.Test.YtplghmkicdpbfaaRows
import Derived.Test.YtplghmkicdpbfaaOwn
import Derived.ProofKit
import Derived.OpenShut
import Derived.BigRegion
import Derived.Lib.Hide
import Derived.WalkLawsBesides
import Derived.Deep.OwnRows
namespace Go.Proofs.Ytplghmkicdpbfaa
open Go.ChangeShapes Go.WideShapes Go.ChangeAt Go.RowKit Go.Maps Go.Deep

theorem key_u32 : Keyed Try.prog 22 := int_keyed Try.underlying22
theorem zero_u8 (w : World) : (zeroValue 5).run Try.prog w = .ok (.int .u8 0) w := by kernel_rfl
theorem wf_u32 (a : Int) (h0 : 0 ≤ a) (h1 : a < 4294967296) : (Lit.int .u32 a).wf = true := by
  simp only [Lit.wf, Bool.and_eq_true, decide_eq_true_eq]
  have e1 : IntKind.u32.min = 0 := by decide
  have e2 : IntKind.u32.max = 4294967295 := by decide
  omega
theorem wf_u8 (a : Int) (h0 : 0 ≤ a) (h1 : a < 256) : (Lit.int .u8 a).wf = true := by
  simp only [Lit.wf, Bool.and_eq_true, decide_eq_true_eq]
  have e1 : IntKind.u8.min = 0 := by decide
  have e2 : IntKind.u8.max = 255 := by decide
  omega
/-- Block B is a map of at most n entries in which place a has the byte g a. -/
def RefMap (w : World) (B n : Nat) (g : Int → Int) : Prop :=
  ∃ D : DataW Unit, w.ownsMap Try.prog 22 (plainElem Try.prog 5) B n D ∧ (∀ a, 0 ≤ a → a < 4294967296 → D.atKey (.int .u32 a) (.lit (.int .u8 0)) = .lit (.int .u8 (g a))) ∧ IsMap D ∧ ∀ a, 0 ≤ g a ∧ g a < 256
theorem RefMap.but {F : Nat → Prop} {w w' : World} {B n : Nat} {g : Int → Int} (h : RefMap w B n g) (hb : But F w w') (hn : ¬ F B) : RefMap w' B n g := by
  obtain ⟨D, hm, r⟩ := h
  exact ⟨D, hb.owns hm hn, r⟩
theorem RefMap.made (w : World) : RefMap (w.alloc (.map #[] 0)) w.heap.size 0 (fun _ => 0) :=
  ⟨.map [], World.ownsMap_made _ _ _ _, fun _ _ _ => rfl, isMap_empty, fun _ => ⟨Int.le_refl 0, by show (0 : Int) < 256; omega⟩⟩
def setG (g : Int → Int) (a v : Int) : Int → Int := fun b => if b = a then v else g b
theorem info_u8 : (Try.prog.info? 5).map (fun i => (i.zero, i.size, i.bytes)) = some (some (.int .u8 0), 1, 1) := by kernel_rfl
/-- how many bytes a reading has -/
def readN (m : Int) : Nat := if m < 0 then 0 else if 1048576 < m then 1048576 else m.toNat
theorem readN_le (m : Int) : readN m ≤ 1048576 := by unfold readN; split <;> (try split) <;> omega
def place (a : Int) (i : Nat) : Int := (a + i) % 4294967296
attribute [local go_sem] isSome_setCell
end Go.Proofs.Ytplghmkicdpbfaa
