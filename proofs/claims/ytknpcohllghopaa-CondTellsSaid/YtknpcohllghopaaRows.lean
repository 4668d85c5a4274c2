/-
  No cell of these rows narrows 'for every input' (looked for: loops, veiled, ifaces, maps, wideKeys, modest, calm, conditions, laid).
  DERIVED. THE GIVEN ROWS OF THIS SEAT. 3 by the template 'for every input the law returns true; each argument reads behind the call as it read before'; 0 by the template 'total and deterministic' (their statements: YtknpcohllghopaaTotals.lean).
  GIVEN WITH THE SEED: the statements are not yours to turn. If you find one false, say at which input.
  Laid BY PROGRAM, IN A SANDBOX (cutbox-rows.mjs): the forced cells as the released guide's own fill.sh prints them over the translation b28a87af420fb483… (all of the seat's roots in one cut). By AI agents, Wed Nov 11 2026. No macro, syntax, notation, axiom, sorry.
-/
import Derived.Test.YtknpcohllghopaaChecked
import GoSem.Claim
import GoSem.ClaimJoined
import GoSem.ClaimMapViews
import Derived.JoinedTies
import Derived.KernelRfl
namespace Go.Proofs.Ytknpcohllghopaa
/- THE CELL 'sum', in the pinned program and in every row, IS THE sha256 OF THE DUMP (.gsa) THAT YtknpcohllghopaaProg.lean LOADS. Nothing in Lean hashes anything: it is a label: what it is worth is what the hold of that sum in a sandbox is worth. -/
noncomputable def Try.pinned : Pinned := { name := "ytknpcohllghopaa", sum := "b28a87af420fb483f8cdf77f295f46f7b40483035a602b92d6d42352ca8266b9", checked := Try.checked }
namespace Rows
def none {H : Type} : Left H := { results := [], args := [] }

/-- 'salternlaw5.CondTells': WHATEVER THE INPUT: true; the input reads as it did. -/
def condTellsSpec : ChangeSpec := { name := "condTells", fn := fun _ => fun
  | [d1, d2] => { results := [.lit (.bool true)], args := [d1, d2] }
  | _ => none }
def condTellsRow : OpenClaim := { program := "ytknpcohllghopaa", sum := "b28a87af420fb483f8cdf77f295f46f7b40483035a602b92d6d42352ca8266b9", func := "saltern/salternlaw5.CondTells", spec := "condTells", apart := false }
def CondTellsSaid : Prop := condTellsRow.holds Try.pinned (OpenSpec.ofChange condTellsSpec)

/-- ITS FALSE NEIGHBOUR: 'it returns false'. Refute it at one input. -/
def condTellsWrong : ChangeSpec := { name := "condTells", fn := fun _ => fun
  | [d1, d2] => { results := [.lit (.bool false)], args := [d1, d2] }
  | _ => none }
def CondTellsWrongFalsely : Prop := condTellsRow.holds Try.pinned (OpenSpec.ofChange condTellsWrong)

/-- 'salternlaw5.CondTurns': WHATEVER THE INPUT: true; the input reads as it did. -/
def condTurnsSpec : ChangeSpec := { name := "condTurns", fn := fun _ => fun
  | [d1, d2] => { results := [.lit (.bool true)], args := [d1, d2] }
  | _ => none }
def condTurnsRow : OpenClaim := { program := "ytknpcohllghopaa", sum := "b28a87af420fb483f8cdf77f295f46f7b40483035a602b92d6d42352ca8266b9", func := "saltern/salternlaw5.CondTurns", spec := "condTurns", apart := false }
def CondTurnsSaid : Prop := condTurnsRow.holds Try.pinned (OpenSpec.ofChange condTurnsSpec)

/-- ITS FALSE NEIGHBOUR: 'it returns false'. Refute it at one input. -/
def condTurnsWrong : ChangeSpec := { name := "condTurns", fn := fun _ => fun
  | [d1, d2] => { results := [.lit (.bool false)], args := [d1, d2] }
  | _ => none }
def CondTurnsWrongFalsely : Prop := condTurnsRow.holds Try.pinned (OpenSpec.ofChange condTurnsWrong)

/-- 'salternlaw5.CondSums': WHATEVER THE INPUT: true; the input reads as it did. -/
def condSumsSpec : ChangeSpec := { name := "condSums", fn := fun _ => fun
  | [d1, d2] => { results := [.lit (.bool true)], args := [d1, d2] }
  | _ => none }
def condSumsRow : OpenClaim := { program := "ytknpcohllghopaa", sum := "b28a87af420fb483f8cdf77f295f46f7b40483035a602b92d6d42352ca8266b9", func := "saltern/salternlaw5.CondSums", spec := "condSums", apart := false }
def CondSumsSaid : Prop := condSumsRow.holds Try.pinned (OpenSpec.ofChange condSumsSpec)

/-- ITS FALSE NEIGHBOUR: 'it returns false'. Refute it at one input. -/
def condSumsWrong : ChangeSpec := { name := "condSums", fn := fun _ => fun
  | [d1, d2] => { results := [.lit (.bool false)], args := [d1, d2] }
  | _ => none }
def CondSumsWrongFalsely : Prop := condSumsRow.holds Try.pinned (OpenSpec.ofChange condSumsWrong)

/- THE SECOND FORM. 'bulk': how many values and letters a reading holds, each counted each time it is reached (what is shared counts as often as it is met; a slice's spare places count too). A statement '..UptoSaid' is the law's where the arguments, and the package variables that the reading takes, are together of bulk at most 1048576: NARROWER than '..Said'. Prove '..Said' where nothing that the law and all that it calls make is longer than what came in: it says more and counts as full. Else prove '..UptoSaid'. A law counts once. -/
mutual
def uptoBulk {H : Type} : DataW H → Nat
  | .lit (.string bytes) => bytes.length + 1
  | .lit _ => 1
  | .nil => 1
  | .ptr d => uptoBulk d + 1
  | .slice elems spare => uptoBulkAll elems + uptoBulkAll spare + 1
  | .agg parts => uptoBulkAll parts + 1
  | .iface _ d => uptoBulk d + 1
  | .map entries => uptoBulkEntries entries + 1
  | .held _ => 1
def uptoBulkAll {H : Type} : List (DataW H) → Nat
  | [] => 0
  | d :: r => uptoBulk d + uptoBulkAll r
def uptoBulkEntries {H : Type} : List (Lit × DataW H) → Nat
  | [] => 0
  | x :: r => uptoBulkEntry x + uptoBulkEntries r
def uptoBulkEntry {H : Type} : Lit × DataW H → Nat
  | (.string bytes, d) => bytes.length + uptoBulk d + 1
  | (_, d) => uptoBulk d + 1
 end
def uptoSmall : (H : Type) → List (DataW H) → Bool := fun _ ds => decide (uptoBulkAll ds ≤ 1048576)
def OpenSpec.upto (s : _root_.Go.ChangeSpec) : _root_.Go.OpenSpec := { _root_.Go.OpenSpec.ofChange s with cond := some uptoSmall }

/-- 'salternlaw5.CondTells', WHERE WHAT IT READS IS OF BULK AT MOST 1048576: true; the input reads as it did. -/
def condTellsUptoRow : OpenClaim := { program := "ytknpcohllghopaa", sum := "b28a87af420fb483f8cdf77f295f46f7b40483035a602b92d6d42352ca8266b9", func := "saltern/salternlaw5.CondTells", spec := "condTells", apart := false, narrowed := true }
def CondTellsUptoSaid : Prop := condTellsUptoRow.holds Try.pinned (OpenSpec.upto condTellsSpec)

/-- 'salternlaw5.CondTurns', WHERE WHAT IT READS IS OF BULK AT MOST 1048576: true; the input reads as it did. -/
def condTurnsUptoRow : OpenClaim := { program := "ytknpcohllghopaa", sum := "b28a87af420fb483f8cdf77f295f46f7b40483035a602b92d6d42352ca8266b9", func := "saltern/salternlaw5.CondTurns", spec := "condTurns", apart := false, narrowed := true }
def CondTurnsUptoSaid : Prop := condTurnsUptoRow.holds Try.pinned (OpenSpec.upto condTurnsSpec)

/-- 'salternlaw5.CondSums', WHERE WHAT IT READS IS OF BULK AT MOST 1048576: true; the input reads as it did. -/
def condSumsUptoRow : OpenClaim := { program := "ytknpcohllghopaa", sum := "b28a87af420fb483f8cdf77f295f46f7b40483035a602b92d6d42352ca8266b9", func := "saltern/salternlaw5.CondSums", spec := "condSums", apart := false, narrowed := true }
def CondSumsUptoSaid : Prop := condSumsUptoRow.holds Try.pinned (OpenSpec.upto condSumsSpec)

end Rows
end Go.Proofs.Ytknpcohllghopaa
