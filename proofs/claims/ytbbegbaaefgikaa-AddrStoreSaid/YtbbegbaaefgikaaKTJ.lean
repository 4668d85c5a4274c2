import Derived.Sort.AssemblyPlain
import Derived.Sort.Row
import Derived.BigGuard
import Derived.BigCall
import Derived.BigQuiet
import Derived.CellFam
import Derived.Deep.Draws
import Derived.Deep.QuietTactic
import Derived.Deep.DeepCutAuto
import Derived.Test.YtbbegbaaefgikaaKTI
namespace Go.Proofs.Ytbbegbaaefgikaa
open Go.ChangeShapes Go.WideShapes Go.ChangeAt Go.RowKit Go.Maps Go.Deep Go.Sort
set_option maxRecDepth 100000
def gt (d : Array Int) (t : Nat) : Int := d[t]!
structure Row (W w : World) (b : Nat) (d : Array Int) : Prop where
  cell : ∀ t, t < d.size → w.cell? ⟨b, t, none⟩ = some (.int .u32 (gt d t))
  fro : ∀ t, w.frozen? ⟨b, t, none⟩ = false
  but : But (· = b) W w
theorem Row.drew {W w : World} {b : Nat} {d : Array Int} (h : Row W w b d) : Row W w.drew b d := ⟨h.cell, h.fro, h.but.drew⟩
theorem Row.self {W w : World} {b : Nat} {d : Array Int} (h : Row W w b d) : Row w w b d := ⟨h.cell, h.fro, But.refl _ _⟩
/-! insertion sort -/
end Go.Proofs.Ytbbegbaaefgikaa
