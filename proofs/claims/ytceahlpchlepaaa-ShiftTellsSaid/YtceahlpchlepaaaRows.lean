/-
  No cell of these rows narrows 'for every input' (looked for: loops, veiled, ifaces, maps, wideKeys, modest, calm, conditions, laid).
  DERIVED. THE GIVEN ROWS OF THIS SEAT. 5 by the template 'for every input the law returns true; each argument reads behind the call as it read before'; 0 by the template 'total and deterministic' (their statements: YtceahlpchlepaaaTotals.lean).
  GIVEN WITH THE SEED: the statements are not yours to turn. If you find one false, say at which input.
  Laid BY PROGRAM, IN A SANDBOX (cutbox-rows.mjs): the forced cells as the released guide's own fill.sh prints them over the translation b38da2a8edb0f246… (all of the seat's roots in one cut). By AI agents, Wed Nov 11 2026. No macro, syntax, notation, axiom, sorry.
-/
import Derived.Test.YtceahlpchlepaaaChecked
import GoSem.Claim
import GoSem.ClaimJoined
import GoSem.ClaimMapViews
import Derived.JoinedTies
import Derived.KernelRfl
namespace Go.Proofs.Ytceahlpchlepaaa
/- THE CELL 'sum', in the pinned program and in every row, IS THE sha256 OF THE DUMP (.gsa) THAT YtceahlpchlepaaaProg.lean LOADS. Nothing in Lean hashes anything: it is a label: what it is worth is what the hold of that sum in a sandbox is worth. -/
noncomputable def Try.pinned : Pinned := { name := "ytceahlpchlepaaa", sum := "b38da2a8edb0f246878b4bd77a039dc9789f3c471edbeb7a6c6f5da00ea053df", checked := Try.checked }
namespace Rows
def none {H : Type} : Left H := { results := [], args := [] }

/-- 'salternlaw2.ShiftTells': WHATEVER THE INPUT: true; the input reads as it did. -/
def shiftTellsSpec : ChangeSpec := { name := "shiftTells", fn := fun _ => fun
  | [d1, d2, d3, d4, d5] => { results := [.lit (.bool true)], args := [d1, d2, d3, d4, d5] }
  | _ => none }
def shiftTellsRow : OpenClaim := { program := "ytceahlpchlepaaa", sum := "b38da2a8edb0f246878b4bd77a039dc9789f3c471edbeb7a6c6f5da00ea053df", func := "saltern/salternlaw2.ShiftTells", spec := "shiftTells", apart := false }
def ShiftTellsSaid : Prop := shiftTellsRow.holds Try.pinned (OpenSpec.ofChange shiftTellsSpec)

/-- ITS FALSE NEIGHBOUR: 'it returns false'. Refute it at one input. -/
def shiftTellsWrong : ChangeSpec := { name := "shiftTells", fn := fun _ => fun
  | [d1, d2, d3, d4, d5] => { results := [.lit (.bool false)], args := [d1, d2, d3, d4, d5] }
  | _ => none }
def ShiftTellsWrongFalsely : Prop := shiftTellsRow.holds Try.pinned (OpenSpec.ofChange shiftTellsWrong)

/-- 'salternlaw2.ShiftTwice': WHATEVER THE INPUT: true; the input reads as it did. -/
def shiftTwiceSpec : ChangeSpec := { name := "shiftTwice", fn := fun _ => fun
  | [d1, d2, d3, d4, d5] => { results := [.lit (.bool true)], args := [d1, d2, d3, d4, d5] }
  | _ => none }
def shiftTwiceRow : OpenClaim := { program := "ytceahlpchlepaaa", sum := "b38da2a8edb0f246878b4bd77a039dc9789f3c471edbeb7a6c6f5da00ea053df", func := "saltern/salternlaw2.ShiftTwice", spec := "shiftTwice", apart := false }
def ShiftTwiceSaid : Prop := shiftTwiceRow.holds Try.pinned (OpenSpec.ofChange shiftTwiceSpec)

/-- ITS FALSE NEIGHBOUR: 'it returns false'. Refute it at one input. -/
def shiftTwiceWrong : ChangeSpec := { name := "shiftTwice", fn := fun _ => fun
  | [d1, d2, d3, d4, d5] => { results := [.lit (.bool false)], args := [d1, d2, d3, d4, d5] }
  | _ => none }
def ShiftTwiceWrongFalsely : Prop := shiftTwiceRow.holds Try.pinned (OpenSpec.ofChange shiftTwiceWrong)

/-- 'salternlaw2.ShiftWorth': WHATEVER THE INPUT: true; the input reads as it did. -/
def shiftWorthSpec : ChangeSpec := { name := "shiftWorth", fn := fun _ => fun
  | [d1, d2] => { results := [.lit (.bool true)], args := [d1, d2] }
  | _ => none }
def shiftWorthRow : OpenClaim := { program := "ytceahlpchlepaaa", sum := "b38da2a8edb0f246878b4bd77a039dc9789f3c471edbeb7a6c6f5da00ea053df", func := "saltern/salternlaw2.ShiftWorth", spec := "shiftWorth", apart := false }
def ShiftWorthSaid : Prop := shiftWorthRow.holds Try.pinned (OpenSpec.ofChange shiftWorthSpec)

/-- ITS FALSE NEIGHBOUR: 'it returns false'. Refute it at one input. -/
def shiftWorthWrong : ChangeSpec := { name := "shiftWorth", fn := fun _ => fun
  | [d1, d2] => { results := [.lit (.bool false)], args := [d1, d2] }
  | _ => none }
def ShiftWorthWrongFalsely : Prop := shiftWorthRow.holds Try.pinned (OpenSpec.ofChange shiftWorthWrong)

/-- 'salternlaw2.ShiftOut': WHATEVER THE INPUT: true; the input reads as it did. -/
def shiftOutSpec : ChangeSpec := { name := "shiftOut", fn := fun _ => fun
  | [d1, d2, d3] => { results := [.lit (.bool true)], args := [d1, d2, d3] }
  | _ => none }
def shiftOutRow : OpenClaim := { program := "ytceahlpchlepaaa", sum := "b38da2a8edb0f246878b4bd77a039dc9789f3c471edbeb7a6c6f5da00ea053df", func := "saltern/salternlaw2.ShiftOut", spec := "shiftOut", apart := false }
def ShiftOutSaid : Prop := shiftOutRow.holds Try.pinned (OpenSpec.ofChange shiftOutSpec)

/-- ITS FALSE NEIGHBOUR: 'it returns false'. Refute it at one input. -/
def shiftOutWrong : ChangeSpec := { name := "shiftOut", fn := fun _ => fun
  | [d1, d2, d3] => { results := [.lit (.bool false)], args := [d1, d2, d3] }
  | _ => none }
def ShiftOutWrongFalsely : Prop := shiftOutRow.holds Try.pinned (OpenSpec.ofChange shiftOutWrong)

/-- 'salternlaw2.ShiftCounts': WHATEVER THE INPUT: true; the input reads as it did. -/
def shiftCountsSpec : ChangeSpec := { name := "shiftCounts", fn := fun _ => fun
  | [d1, d2, d3, d4] => { results := [.lit (.bool true)], args := [d1, d2, d3, d4] }
  | _ => none }
def shiftCountsRow : OpenClaim := { program := "ytceahlpchlepaaa", sum := "b38da2a8edb0f246878b4bd77a039dc9789f3c471edbeb7a6c6f5da00ea053df", func := "saltern/salternlaw2.ShiftCounts", spec := "shiftCounts", apart := false }
def ShiftCountsSaid : Prop := shiftCountsRow.holds Try.pinned (OpenSpec.ofChange shiftCountsSpec)

/-- ITS FALSE NEIGHBOUR: 'it returns false'. Refute it at one input. -/
def shiftCountsWrong : ChangeSpec := { name := "shiftCounts", fn := fun _ => fun
  | [d1, d2, d3, d4] => { results := [.lit (.bool false)], args := [d1, d2, d3, d4] }
  | _ => none }
def ShiftCountsWrongFalsely : Prop := shiftCountsRow.holds Try.pinned (OpenSpec.ofChange shiftCountsWrong)

/- THE SECOND FORM. 'bulk': how many values and letters a reading holds, each counted each time it is reached (what is shared counts as often as it is met; a slice's spare places count too). A statement '..UptoSaid' is the law's where the arguments, and the package variables that the reading takes, are together of bulk at most 1048576: NARROWER than '..Said'. Prove '..Said' where nothing that the law and all that it calls make is longer than what came in: it says more and counts as full. Else prove '..UptoSaid'. A law counts once. -/
mutual
def uptoBulk {H : Type} : DataW H → Nat
  | .lit (.string bytes) => bytes.length + 1
  | .lit _ => 1
  | .nil => 1
  | .ptr d => uptoBulk d + 1
  | .slice elems spare => uptoBulkAll elems + uptoBulkAll spare + 1
  | .agg parts => uptoBulkAll parts + 1
  | .iface _ d => uptoBulk d + 1
  | .map entries => uptoBulkEntries entries + 1
  | .held _ => 1
def uptoBulkAll {H : Type} : List (DataW H) → Nat
  | [] => 0
  | d :: r => uptoBulk d + uptoBulkAll r
def uptoBulkEntries {H : Type} : List (Lit × DataW H) → Nat
  | [] => 0
  | x :: r => uptoBulkEntry x + uptoBulkEntries r
def uptoBulkEntry {H : Type} : Lit × DataW H → Nat
  | (.string bytes, d) => bytes.length + uptoBulk d + 1
  | (_, d) => uptoBulk d + 1
 end
def uptoSmall : (H : Type) → List (DataW H) → Bool := fun _ ds => decide (uptoBulkAll ds ≤ 1048576)
def OpenSpec.upto (s : _root_.Go.ChangeSpec) : _root_.Go.OpenSpec := { _root_.Go.OpenSpec.ofChange s with cond := some uptoSmall }

/-- 'salternlaw2.ShiftTells', WHERE WHAT IT READS IS OF BULK AT MOST 1048576: true; the input reads as it did. -/
def shiftTellsUptoRow : OpenClaim := { program := "ytceahlpchlepaaa", sum := "b38da2a8edb0f246878b4bd77a039dc9789f3c471edbeb7a6c6f5da00ea053df", func := "saltern/salternlaw2.ShiftTells", spec := "shiftTells", apart := false, narrowed := true }
def ShiftTellsUptoSaid : Prop := shiftTellsUptoRow.holds Try.pinned (OpenSpec.upto shiftTellsSpec)

/-- 'salternlaw2.ShiftTwice', WHERE WHAT IT READS IS OF BULK AT MOST 1048576: true; the input reads as it did. -/
def shiftTwiceUptoRow : OpenClaim := { program := "ytceahlpchlepaaa", sum := "b38da2a8edb0f246878b4bd77a039dc9789f3c471edbeb7a6c6f5da00ea053df", func := "saltern/salternlaw2.ShiftTwice", spec := "shiftTwice", apart := false, narrowed := true }
def ShiftTwiceUptoSaid : Prop := shiftTwiceUptoRow.holds Try.pinned (OpenSpec.upto shiftTwiceSpec)

/-- 'salternlaw2.ShiftWorth', WHERE WHAT IT READS IS OF BULK AT MOST 1048576: true; the input reads as it did. -/
def shiftWorthUptoRow : OpenClaim := { program := "ytceahlpchlepaaa", sum := "b38da2a8edb0f246878b4bd77a039dc9789f3c471edbeb7a6c6f5da00ea053df", func := "saltern/salternlaw2.ShiftWorth", spec := "shiftWorth", apart := false, narrowed := true }
def ShiftWorthUptoSaid : Prop := shiftWorthUptoRow.holds Try.pinned (OpenSpec.upto shiftWorthSpec)

/-- 'salternlaw2.ShiftOut', WHERE WHAT IT READS IS OF BULK AT MOST 1048576: true; the input reads as it did. -/
def shiftOutUptoRow : OpenClaim := { program := "ytceahlpchlepaaa", sum := "b38da2a8edb0f246878b4bd77a039dc9789f3c471edbeb7a6c6f5da00ea053df", func := "saltern/salternlaw2.ShiftOut", spec := "shiftOut", apart := false, narrowed := true }
def ShiftOutUptoSaid : Prop := shiftOutUptoRow.holds Try.pinned (OpenSpec.upto shiftOutSpec)

/-- 'salternlaw2.ShiftCounts', WHERE WHAT IT READS IS OF BULK AT MOST 1048576: true; the input reads as it did. -/
def shiftCountsUptoRow : OpenClaim := { program := "ytceahlpchlepaaa", sum := "b38da2a8edb0f246878b4bd77a039dc9789f3c471edbeb7a6c6f5da00ea053df", func := "saltern/salternlaw2.ShiftCounts", spec := "shiftCounts", apart := false, narrowed := true }
def ShiftCountsUptoSaid : Prop := shiftCountsUptoRow.holds Try.pinned (OpenSpec.upto shiftCountsSpec)

end Rows
end Go.Proofs.Ytceahlpchlepaaa
