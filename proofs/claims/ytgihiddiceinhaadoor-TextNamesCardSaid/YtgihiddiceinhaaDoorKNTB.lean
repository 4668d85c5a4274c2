import Derived.Lib.LaidTab
import Derived.LaidLaws
import Derived.Stop.LaidErr
import Derived.Test.YtgihiddiceinhaaDoorKNN12
namespace Go.Proofs.YtgihiddiceinhaaDoor
open Go.ChangeShapes Go.WideShapes Go.ChangeAt Go.RowKit
abbrev laid12 : List (String × DataW Unit) := Rows.textNamesRow.laid
def numsOf : DataW Unit → List Int
  | .agg l => l.map fun | .lit (.int _ n) => n | _ => 0
  | _ => []
theorem tab_second {a b c : String × DataW Unit} {W : World} (h : laidMet Tryd.prog [a, b, c] W) (hb : b.2 = Lib.tabData .u8 (numsOf Rows.laid_math_bits_deBruijn64tab)) (hg : Tryd.prog.globalNamed b.1 = some 2) : TabZ W := by
  obtain ⟨n, d⟩ := b
  obtain rfl : d = _ := hb
  have ht := Lib.tabIs_of_head hg (t := 100) (by kernel_rfl) Tryd.underlying100 Tryd.underlying5 (by kernel_rfl) (by kernel_rfl) h.tail
  exact ht.cell hg 15 (by decide)
theorem tabz_of_laid {W : World} (h : laidMet Tryd.prog laid12 W) : TabZ W := tab_second h rfl (by kernel_rfl)
def cellsOf12 : DataW Unit → Array Value
  | .agg l => (l.map fun | .lit (.int k n) => Value.int k n | _ => undef).toArray
  | _ => #[]
noncomputable def laidWorld12 (os : Os) : World :=
  let w0 := World.holding Tryd.prog os ⟨#[], #[], []⟩
  { w0 with heap := ((w0.heap.modify 1 fun
      | .cells _ t frozen => .cells (cellsOf12 Rows.laid_math_bits_deBruijn32tab) t frozen
      | o => o).modify 2 fun
      | .cells _ t frozen => .cells (cellsOf12 Rows.laid_math_bits_deBruijn64tab) t frozen
      | o => o).modify 0 fun
      | .cells _ t frozen => .cells (cellsOf12 Rows.laid_internal_strconv_uint64pow10) t frozen
      | o => o }
theorem laidWorld12_met (os : Os) (args : Array Value) : laidMet Tryd.prog laid12 ((laidWorld12 os).forCall (fun _ _ => 0) ⟨#[], args, []⟩).memory :=
  laidMet_of_run' 8 (by kernel_rfl) (by kernel_rfl)
end Go.Proofs.YtgihiddiceinhaaDoor
