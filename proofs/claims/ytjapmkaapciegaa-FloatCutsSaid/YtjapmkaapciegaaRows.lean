/-
  No cell of these rows narrows 'for every input' (looked for: loops, veiled, ifaces, maps, wideKeys, modest, calm, conditions, laid).
  DERIVED. THE GIVEN ROWS OF THIS SEAT. 8 by the template 'for every input the law returns true; each argument reads behind the call as it read before'; 0 by the template 'total and deterministic' (their statements: YtjapmkaapciegaaTotals.lean).
  GIVEN WITH THE SEED: the statements are not yours to turn. If you find one false, say at which input.
  Laid BY PROGRAM, IN A SANDBOX (cutbox-rows.mjs): the forced cells as the released guide's own fill.sh prints them over the translation 7c7a6ddc6ab18c5c… (all of the seat's roots in one cut). By AI agents, Wed Nov 11 2026. No macro, syntax, notation, axiom, sorry.
-/
import Derived.Test.YtjapmkaapciegaaChecked
import GoSem.Claim
import GoSem.ClaimJoined
import GoSem.ClaimMapViews
import Derived.JoinedTies
import Derived.KernelRfl
namespace Go.Proofs.Ytjapmkaapciegaa
/- THE CELL 'sum', in the pinned program and in every row, IS THE sha256 OF THE DUMP (.gsa) THAT YtjapmkaapciegaaProg.lean LOADS. Nothing in Lean hashes anything: it is a label: what it is worth is what the hold of that sum in a sandbox is worth. -/
noncomputable def Try.pinned : Pinned := { name := "ytjapmkaapciegaa", sum := "7c7a6ddc6ab18c5c8b83844b2cc4045e6e46aee698f0ffe5a2cc39ed373e11c1", checked := Try.checked }
namespace Rows
def none {H : Type} : Left H := { results := [], args := [] }

/-- 'salternlaw4.FloatTells': WHATEVER THE INPUT: true; the input reads as it did. -/
def floatTellsSpec : ChangeSpec := { name := "floatTells", fn := fun _ => fun
  | [d1, d2, d3, d4] => { results := [.lit (.bool true)], args := [d1, d2, d3, d4] }
  | _ => none }
def floatTellsRow : OpenClaim := { program := "ytjapmkaapciegaa", sum := "7c7a6ddc6ab18c5c8b83844b2cc4045e6e46aee698f0ffe5a2cc39ed373e11c1", func := "saltern/salternlaw4.FloatTells", spec := "floatTells", inPlace := ["math.Float64frombits", "math.Float64bits", "math.sqrt"], apart := false }
def FloatTellsSaid : Prop := floatTellsRow.holds Try.pinned (OpenSpec.ofChange floatTellsSpec)

/-- ITS FALSE NEIGHBOUR: 'it returns false'. Refute it at one input. -/
def floatTellsWrong : ChangeSpec := { name := "floatTells", fn := fun _ => fun
  | [d1, d2, d3, d4] => { results := [.lit (.bool false)], args := [d1, d2, d3, d4] }
  | _ => none }
def FloatTellsWrongFalsely : Prop := floatTellsRow.holds Try.pinned (OpenSpec.ofChange floatTellsWrong)

/-- 'salternlaw4.FloatInts': WHATEVER THE INPUT: true; the input reads as it did. -/
def floatIntsSpec : ChangeSpec := { name := "floatInts", fn := fun _ => fun
  | [d1, d2, d3] => { results := [.lit (.bool true)], args := [d1, d2, d3] }
  | _ => none }
def floatIntsRow : OpenClaim := { program := "ytjapmkaapciegaa", sum := "7c7a6ddc6ab18c5c8b83844b2cc4045e6e46aee698f0ffe5a2cc39ed373e11c1", func := "saltern/salternlaw4.FloatInts", spec := "floatInts", inPlace := ["math.Float64frombits", "math.Float64bits", "math.sqrt"], apart := false }
def FloatIntsSaid : Prop := floatIntsRow.holds Try.pinned (OpenSpec.ofChange floatIntsSpec)

/-- ITS FALSE NEIGHBOUR: 'it returns false'. Refute it at one input. -/
def floatIntsWrong : ChangeSpec := { name := "floatInts", fn := fun _ => fun
  | [d1, d2, d3] => { results := [.lit (.bool false)], args := [d1, d2, d3] }
  | _ => none }
def FloatIntsWrongFalsely : Prop := floatIntsRow.holds Try.pinned (OpenSpec.ofChange floatIntsWrong)

/-- 'salternlaw4.FloatNaNs': WHATEVER THE INPUT: true; the input reads as it did. -/
def floatNaNsSpec : ChangeSpec := { name := "floatNaNs", fn := fun _ => fun
  | [d1, d2, d3] => { results := [.lit (.bool true)], args := [d1, d2, d3] }
  | _ => none }
def floatNaNsRow : OpenClaim := { program := "ytjapmkaapciegaa", sum := "7c7a6ddc6ab18c5c8b83844b2cc4045e6e46aee698f0ffe5a2cc39ed373e11c1", func := "saltern/salternlaw4.FloatNaNs", spec := "floatNaNs", inPlace := ["math.Float64frombits", "math.Float64bits", "math.sqrt"], apart := false }
def FloatNaNsSaid : Prop := floatNaNsRow.holds Try.pinned (OpenSpec.ofChange floatNaNsSpec)

/-- ITS FALSE NEIGHBOUR: 'it returns false'. Refute it at one input. -/
def floatNaNsWrong : ChangeSpec := { name := "floatNaNs", fn := fun _ => fun
  | [d1, d2, d3] => { results := [.lit (.bool false)], args := [d1, d2, d3] }
  | _ => none }
def FloatNaNsWrongFalsely : Prop := floatNaNsRow.holds Try.pinned (OpenSpec.ofChange floatNaNsWrong)

/-- 'salternlaw4.FloatZeros': WHATEVER THE INPUT: true; the input reads as it did. -/
def floatZerosSpec : ChangeSpec := { name := "floatZeros", fn := fun _ => fun
  | [d1, d2, d3] => { results := [.lit (.bool true)], args := [d1, d2, d3] }
  | _ => none }
def floatZerosRow : OpenClaim := { program := "ytjapmkaapciegaa", sum := "7c7a6ddc6ab18c5c8b83844b2cc4045e6e46aee698f0ffe5a2cc39ed373e11c1", func := "saltern/salternlaw4.FloatZeros", spec := "floatZeros", inPlace := ["math.Float64frombits", "math.Float64bits", "math.sqrt"], unfollowed := true, recurses := true, apart := false }
def FloatZerosSaid : Prop := floatZerosRow.holds Try.pinned (OpenSpec.ofChange floatZerosSpec)

/-- ITS FALSE NEIGHBOUR: 'it returns false'. Refute it at one input. -/
def floatZerosWrong : ChangeSpec := { name := "floatZeros", fn := fun _ => fun
  | [d1, d2, d3] => { results := [.lit (.bool false)], args := [d1, d2, d3] }
  | _ => none }
def FloatZerosWrongFalsely : Prop := floatZerosRow.holds Try.pinned (OpenSpec.ofChange floatZerosWrong)

/-- 'salternlaw4.FloatWhole': WHATEVER THE INPUT: true; the input reads as it did. -/
def floatWholeSpec : ChangeSpec := { name := "floatWhole", fn := fun _ => fun
  | [d1, d2] => { results := [.lit (.bool true)], args := [d1, d2] }
  | _ => none }
def floatWholeRow : OpenClaim := { program := "ytjapmkaapciegaa", sum := "7c7a6ddc6ab18c5c8b83844b2cc4045e6e46aee698f0ffe5a2cc39ed373e11c1", func := "saltern/salternlaw4.FloatWhole", spec := "floatWhole", inPlace := ["math.Float64frombits", "math.Float64bits", "math.sqrt"], apart := false }
def FloatWholeSaid : Prop := floatWholeRow.holds Try.pinned (OpenSpec.ofChange floatWholeSpec)

/-- ITS FALSE NEIGHBOUR: 'it returns false'. Refute it at one input. -/
def floatWholeWrong : ChangeSpec := { name := "floatWhole", fn := fun _ => fun
  | [d1, d2] => { results := [.lit (.bool false)], args := [d1, d2] }
  | _ => none }
def FloatWholeWrongFalsely : Prop := floatWholeRow.holds Try.pinned (OpenSpec.ofChange floatWholeWrong)

/-- 'salternlaw4.FloatCuts': WHATEVER THE INPUT: true; the input reads as it did. -/
def floatCutsSpec : ChangeSpec := { name := "floatCuts", fn := fun _ => fun
  | [d1, d2] => { results := [.lit (.bool true)], args := [d1, d2] }
  | _ => none }
def floatCutsRow : OpenClaim := { program := "ytjapmkaapciegaa", sum := "7c7a6ddc6ab18c5c8b83844b2cc4045e6e46aee698f0ffe5a2cc39ed373e11c1", func := "saltern/salternlaw4.FloatCuts", spec := "floatCuts", inPlace := ["math.Float64frombits", "math.Float64bits", "math.sqrt"], apart := false }
def FloatCutsSaid : Prop := floatCutsRow.holds Try.pinned (OpenSpec.ofChange floatCutsSpec)

/-- ITS FALSE NEIGHBOUR: 'it returns false'. Refute it at one input. -/
def floatCutsWrong : ChangeSpec := { name := "floatCuts", fn := fun _ => fun
  | [d1, d2] => { results := [.lit (.bool false)], args := [d1, d2] }
  | _ => none }
def FloatCutsWrongFalsely : Prop := floatCutsRow.holds Try.pinned (OpenSpec.ofChange floatCutsWrong)

/-- 'salternlaw4.FloatRoots': WHATEVER THE INPUT: true; the input reads as it did. -/
def floatRootsSpec : ChangeSpec := { name := "floatRoots", fn := fun _ => fun
  | [d1, d2] => { results := [.lit (.bool true)], args := [d1, d2] }
  | _ => none }
def floatRootsRow : OpenClaim := { program := "ytjapmkaapciegaa", sum := "7c7a6ddc6ab18c5c8b83844b2cc4045e6e46aee698f0ffe5a2cc39ed373e11c1", func := "saltern/salternlaw4.FloatRoots", spec := "floatRoots", inPlace := ["math.Float64frombits", "math.Float64bits", "math.sqrt"], apart := false }
def FloatRootsSaid : Prop := floatRootsRow.holds Try.pinned (OpenSpec.ofChange floatRootsSpec)

/-- ITS FALSE NEIGHBOUR: 'it returns false'. Refute it at one input. -/
def floatRootsWrong : ChangeSpec := { name := "floatRoots", fn := fun _ => fun
  | [d1, d2] => { results := [.lit (.bool false)], args := [d1, d2] }
  | _ => none }
def FloatRootsWrongFalsely : Prop := floatRootsRow.holds Try.pinned (OpenSpec.ofChange floatRootsWrong)

/-- 'salternlaw4.FloatLesser': WHATEVER THE INPUT: true; the input reads as it did. -/
def floatLesserSpec : ChangeSpec := { name := "floatLesser", fn := fun _ => fun
  | [d1, d2] => { results := [.lit (.bool true)], args := [d1, d2] }
  | _ => none }
def floatLesserRow : OpenClaim := { program := "ytjapmkaapciegaa", sum := "7c7a6ddc6ab18c5c8b83844b2cc4045e6e46aee698f0ffe5a2cc39ed373e11c1", func := "saltern/salternlaw4.FloatLesser", spec := "floatLesser", inPlace := ["math.Float64frombits", "math.Float64bits", "math.sqrt"], apart := false }
def FloatLesserSaid : Prop := floatLesserRow.holds Try.pinned (OpenSpec.ofChange floatLesserSpec)

/-- ITS FALSE NEIGHBOUR: 'it returns false'. Refute it at one input. -/
def floatLesserWrong : ChangeSpec := { name := "floatLesser", fn := fun _ => fun
  | [d1, d2] => { results := [.lit (.bool false)], args := [d1, d2] }
  | _ => none }
def FloatLesserWrongFalsely : Prop := floatLesserRow.holds Try.pinned (OpenSpec.ofChange floatLesserWrong)

/- THE SECOND FORM. 'bulk': how many values and letters a reading holds, each counted each time it is reached (what is shared counts as often as it is met; a slice's spare places count too). A statement '..UptoSaid' is the law's where the arguments, and the package variables that the reading takes, are together of bulk at most 1048576: NARROWER than '..Said'. Prove '..Said' where nothing that the law and all that it calls make is longer than what came in: it says more and counts as full. Else prove '..UptoSaid'. A law counts once. -/
mutual
def uptoBulk {H : Type} : DataW H → Nat
  | .lit (.string bytes) => bytes.length + 1
  | .lit _ => 1
  | .nil => 1
  | .ptr d => uptoBulk d + 1
  | .slice elems spare => uptoBulkAll elems + uptoBulkAll spare + 1
  | .agg parts => uptoBulkAll parts + 1
  | .iface _ d => uptoBulk d + 1
  | .map entries => uptoBulkEntries entries + 1
  | .held _ => 1
def uptoBulkAll {H : Type} : List (DataW H) → Nat
  | [] => 0
  | d :: r => uptoBulk d + uptoBulkAll r
def uptoBulkEntries {H : Type} : List (Lit × DataW H) → Nat
  | [] => 0
  | x :: r => uptoBulkEntry x + uptoBulkEntries r
def uptoBulkEntry {H : Type} : Lit × DataW H → Nat
  | (.string bytes, d) => bytes.length + uptoBulk d + 1
  | (_, d) => uptoBulk d + 1
 end
def uptoSmall : (H : Type) → List (DataW H) → Bool := fun _ ds => decide (uptoBulkAll ds ≤ 1048576)
def OpenSpec.upto (s : _root_.Go.ChangeSpec) : _root_.Go.OpenSpec := { _root_.Go.OpenSpec.ofChange s with cond := some uptoSmall }

/-- 'salternlaw4.FloatTells', WHERE WHAT IT READS IS OF BULK AT MOST 1048576: true; the input reads as it did. -/
def floatTellsUptoRow : OpenClaim := { program := "ytjapmkaapciegaa", sum := "7c7a6ddc6ab18c5c8b83844b2cc4045e6e46aee698f0ffe5a2cc39ed373e11c1", func := "saltern/salternlaw4.FloatTells", spec := "floatTells", inPlace := ["math.Float64frombits", "math.Float64bits", "math.sqrt"], apart := false, narrowed := true }
def FloatTellsUptoSaid : Prop := floatTellsUptoRow.holds Try.pinned (OpenSpec.upto floatTellsSpec)

/-- 'salternlaw4.FloatInts', WHERE WHAT IT READS IS OF BULK AT MOST 1048576: true; the input reads as it did. -/
def floatIntsUptoRow : OpenClaim := { program := "ytjapmkaapciegaa", sum := "7c7a6ddc6ab18c5c8b83844b2cc4045e6e46aee698f0ffe5a2cc39ed373e11c1", func := "saltern/salternlaw4.FloatInts", spec := "floatInts", inPlace := ["math.Float64frombits", "math.Float64bits", "math.sqrt"], apart := false, narrowed := true }
def FloatIntsUptoSaid : Prop := floatIntsUptoRow.holds Try.pinned (OpenSpec.upto floatIntsSpec)

/-- 'salternlaw4.FloatNaNs', WHERE WHAT IT READS IS OF BULK AT MOST 1048576: true; the input reads as it did. -/
def floatNaNsUptoRow : OpenClaim := { program := "ytjapmkaapciegaa", sum := "7c7a6ddc6ab18c5c8b83844b2cc4045e6e46aee698f0ffe5a2cc39ed373e11c1", func := "saltern/salternlaw4.FloatNaNs", spec := "floatNaNs", inPlace := ["math.Float64frombits", "math.Float64bits", "math.sqrt"], apart := false, narrowed := true }
def FloatNaNsUptoSaid : Prop := floatNaNsUptoRow.holds Try.pinned (OpenSpec.upto floatNaNsSpec)

/-- 'salternlaw4.FloatZeros', WHERE WHAT IT READS IS OF BULK AT MOST 1048576: true; the input reads as it did. -/
def floatZerosUptoRow : OpenClaim := { program := "ytjapmkaapciegaa", sum := "7c7a6ddc6ab18c5c8b83844b2cc4045e6e46aee698f0ffe5a2cc39ed373e11c1", func := "saltern/salternlaw4.FloatZeros", spec := "floatZeros", inPlace := ["math.Float64frombits", "math.Float64bits", "math.sqrt"], unfollowed := true, recurses := true, apart := false, narrowed := true }
def FloatZerosUptoSaid : Prop := floatZerosUptoRow.holds Try.pinned (OpenSpec.upto floatZerosSpec)

/-- 'salternlaw4.FloatWhole', WHERE WHAT IT READS IS OF BULK AT MOST 1048576: true; the input reads as it did. -/
def floatWholeUptoRow : OpenClaim := { program := "ytjapmkaapciegaa", sum := "7c7a6ddc6ab18c5c8b83844b2cc4045e6e46aee698f0ffe5a2cc39ed373e11c1", func := "saltern/salternlaw4.FloatWhole", spec := "floatWhole", inPlace := ["math.Float64frombits", "math.Float64bits", "math.sqrt"], apart := false, narrowed := true }
def FloatWholeUptoSaid : Prop := floatWholeUptoRow.holds Try.pinned (OpenSpec.upto floatWholeSpec)

/-- 'salternlaw4.FloatCuts', WHERE WHAT IT READS IS OF BULK AT MOST 1048576: true; the input reads as it did. -/
def floatCutsUptoRow : OpenClaim := { program := "ytjapmkaapciegaa", sum := "7c7a6ddc6ab18c5c8b83844b2cc4045e6e46aee698f0ffe5a2cc39ed373e11c1", func := "saltern/salternlaw4.FloatCuts", spec := "floatCuts", inPlace := ["math.Float64frombits", "math.Float64bits", "math.sqrt"], apart := false, narrowed := true }
def FloatCutsUptoSaid : Prop := floatCutsUptoRow.holds Try.pinned (OpenSpec.upto floatCutsSpec)

/-- 'salternlaw4.FloatRoots', WHERE WHAT IT READS IS OF BULK AT MOST 1048576: true; the input reads as it did. -/
def floatRootsUptoRow : OpenClaim := { program := "ytjapmkaapciegaa", sum := "7c7a6ddc6ab18c5c8b83844b2cc4045e6e46aee698f0ffe5a2cc39ed373e11c1", func := "saltern/salternlaw4.FloatRoots", spec := "floatRoots", inPlace := ["math.Float64frombits", "math.Float64bits", "math.sqrt"], apart := false, narrowed := true }
def FloatRootsUptoSaid : Prop := floatRootsUptoRow.holds Try.pinned (OpenSpec.upto floatRootsSpec)

/-- 'salternlaw4.FloatLesser', WHERE WHAT IT READS IS OF BULK AT MOST 1048576: true; the input reads as it did. -/
def floatLesserUptoRow : OpenClaim := { program := "ytjapmkaapciegaa", sum := "7c7a6ddc6ab18c5c8b83844b2cc4045e6e46aee698f0ffe5a2cc39ed373e11c1", func := "saltern/salternlaw4.FloatLesser", spec := "floatLesser", inPlace := ["math.Float64frombits", "math.Float64bits", "math.sqrt"], apart := false, narrowed := true }
def FloatLesserUptoSaid : Prop := floatLesserUptoRow.holds Try.pinned (OpenSpec.upto floatLesserSpec)

end Rows
end Go.Proofs.Ytjapmkaapciegaa
