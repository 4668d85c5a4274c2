/-
  No cell of these rows narrows 'for every input' (looked for: loops, veiled, ifaces, maps, wideKeys, modest, calm, conditions, laid).
  DERIVED. THE GIVEN ROWS OF THIS SEAT. 6 by the template 'for every input the law returns true; each argument reads behind the call as it read before'; 0 by the template 'total and deterministic' (their statements: YtmdncgfheeijaaaGreatTotals.lean).
  GIVEN WITH THE SEED: the statements are not yours to turn. If you find one false, say at which input.
  Laid BY PROGRAM, IN A SANDBOX (cutbox-rows.mjs): the forced cells as the released guide's own fill.sh prints them over the translation e64f7565f05184b0… (all of the seat's roots in one cut). By AI agents, Wed Nov 11 2026. No macro, syntax, notation, axiom, sorry.
-/
import Derived.Test.YtmdncgfheeijaaaGreatChecked
import GoSem.Claim
import GoSem.ClaimJoined
import GoSem.ClaimMapViews
import Derived.JoinedTies
import Derived.KernelRfl
namespace Go.Proofs.YtmdncgfheeijaaaGreat
/- THE CELL 'sum', in the pinned program and in every row, IS THE sha256 OF THE DUMP (.gsa) THAT YtmdncgfheeijaaaGreatProg.lean LOADS. Nothing in Lean hashes anything: it is a label: what it is worth is what the hold of that sum in a sandbox is worth. -/
noncomputable def Tryz.pinned : Pinned := { name := "ytmdncgfheeijaaagreat", sum := "e64f7565f05184b0556da2a983e08e1fa38a59760a012b654430f75e5d1a53a4", checked := Tryz.checked }
namespace Rows
def none {H : Type} : Left H := { results := [], args := [] }

/-- 'salternlaw15.AluTells': WHATEVER THE INPUT: true; the input reads as it did. -/
def aluTellsSpec : ChangeSpec := { name := "aluTells", fn := fun _ => fun
  | [d1, d2, d3, d4, d5, d6, d7, d8, d9] => { results := [.lit (.bool true)], args := [d1, d2, d3, d4, d5, d6, d7, d8, d9] }
  | _ => none }
def aluTellsRow : OpenClaim := { program := "ytmdncgfheeijaaagreat", sum := "e64f7565f05184b0556da2a983e08e1fa38a59760a012b654430f75e5d1a53a4", func := "saltern/salternlaw15.AluTells", spec := "aluTells", unfollowed := true, recurses := true, apart := false }
def AluTellsSaid : Prop := aluTellsRow.holds Tryz.pinned (OpenSpec.ofChange aluTellsSpec)

/-- ITS FALSE NEIGHBOUR: 'it returns false'. Refute it at one input. -/
def aluTellsWrong : ChangeSpec := { name := "aluTells", fn := fun _ => fun
  | [d1, d2, d3, d4, d5, d6, d7, d8, d9] => { results := [.lit (.bool false)], args := [d1, d2, d3, d4, d5, d6, d7, d8, d9] }
  | _ => none }
def AluTellsWrongFalsely : Prop := aluTellsRow.holds Tryz.pinned (OpenSpec.ofChange aluTellsWrong)

/-- 'salternlaw15.AluRegs': WHATEVER THE INPUT: true; the input reads as it did. -/
def aluRegsSpec : ChangeSpec := { name := "aluRegs", fn := fun _ => fun
  | [d1, d2, d3, d4, d5, d6] => { results := [.lit (.bool true)], args := [d1, d2, d3, d4, d5, d6] }
  | _ => none }
def aluRegsRow : OpenClaim := { program := "ytmdncgfheeijaaagreat", sum := "e64f7565f05184b0556da2a983e08e1fa38a59760a012b654430f75e5d1a53a4", func := "saltern/salternlaw15.AluRegs", spec := "aluRegs", unfollowed := true, recurses := true, apart := false }
def AluRegsSaid : Prop := aluRegsRow.holds Tryz.pinned (OpenSpec.ofChange aluRegsSpec)

/-- ITS FALSE NEIGHBOUR: 'it returns false'. Refute it at one input. -/
def aluRegsWrong : ChangeSpec := { name := "aluRegs", fn := fun _ => fun
  | [d1, d2, d3, d4, d5, d6] => { results := [.lit (.bool false)], args := [d1, d2, d3, d4, d5, d6] }
  | _ => none }
def AluRegsWrongFalsely : Prop := aluRegsRow.holds Tryz.pinned (OpenSpec.ofChange aluRegsWrong)

/-- 'salternlaw15.AluOps': WHATEVER THE INPUT: true; the input reads as it did. -/
def aluOpsSpec : ChangeSpec := { name := "aluOps", fn := fun _ => fun
  | [d] => { results := [.lit (.bool true)], args := [d] }
  | _ => none }
def aluOpsRow : OpenClaim := { program := "ytmdncgfheeijaaagreat", sum := "e64f7565f05184b0556da2a983e08e1fa38a59760a012b654430f75e5d1a53a4", func := "saltern/salternlaw15.AluOps", spec := "aluOps", unfollowed := true, recurses := true, apart := false }
def AluOpsSaid : Prop := aluOpsRow.holds Tryz.pinned (OpenSpec.ofChange aluOpsSpec)

/-- ITS FALSE NEIGHBOUR: 'it returns false'. Refute it at one input. -/
def aluOpsWrong : ChangeSpec := { name := "aluOps", fn := fun _ => fun
  | [d] => { results := [.lit (.bool false)], args := [d] }
  | _ => none }
def AluOpsWrongFalsely : Prop := aluOpsRow.holds Tryz.pinned (OpenSpec.ofChange aluOpsWrong)

/-- 'salternlaw15.AluFails': WHATEVER THE INPUT: true; the input reads as it did. -/
def aluFailsSpec : ChangeSpec := { name := "aluFails", fn := fun _ => fun
  | [d1, d2, d3, d4, d5, d6] => { results := [.lit (.bool true)], args := [d1, d2, d3, d4, d5, d6] }
  | _ => none }
def aluFailsRow : OpenClaim := { program := "ytmdncgfheeijaaagreat", sum := "e64f7565f05184b0556da2a983e08e1fa38a59760a012b654430f75e5d1a53a4", func := "saltern/salternlaw15.AluFails", spec := "aluFails", unfollowed := true, recurses := true, apart := false }
def AluFailsSaid : Prop := aluFailsRow.holds Tryz.pinned (OpenSpec.ofChange aluFailsSpec)

/-- ITS FALSE NEIGHBOUR: 'it returns false'. Refute it at one input. -/
def aluFailsWrong : ChangeSpec := { name := "aluFails", fn := fun _ => fun
  | [d1, d2, d3, d4, d5, d6] => { results := [.lit (.bool false)], args := [d1, d2, d3, d4, d5, d6] }
  | _ => none }
def AluFailsWrongFalsely : Prop := aluFailsRow.holds Tryz.pinned (OpenSpec.ofChange aluFailsWrong)

/-- 'salternlaw15.AluCarries': WHATEVER THE INPUT: true; the input reads as it did. -/
def aluCarriesSpec : ChangeSpec := { name := "aluCarries", fn := fun _ => fun
  | [d1, d2] => { results := [.lit (.bool true)], args := [d1, d2] }
  | _ => none }
def aluCarriesRow : OpenClaim := { program := "ytmdncgfheeijaaagreat", sum := "e64f7565f05184b0556da2a983e08e1fa38a59760a012b654430f75e5d1a53a4", func := "saltern/salternlaw15.AluCarries", spec := "aluCarries", unfollowed := true, recurses := true, apart := false }
def AluCarriesSaid : Prop := aluCarriesRow.holds Tryz.pinned (OpenSpec.ofChange aluCarriesSpec)

/-- ITS FALSE NEIGHBOUR: 'it returns false'. Refute it at one input. -/
def aluCarriesWrong : ChangeSpec := { name := "aluCarries", fn := fun _ => fun
  | [d1, d2] => { results := [.lit (.bool false)], args := [d1, d2] }
  | _ => none }
def AluCarriesWrongFalsely : Prop := aluCarriesRow.holds Tryz.pinned (OpenSpec.ofChange aluCarriesWrong)

/-- 'salternlaw15.AluXchg': WHATEVER THE INPUT: true; the input reads as it did. -/
def aluXchgSpec : ChangeSpec := { name := "aluXchg", fn := fun _ => fun
  | [d1, d2, d3, d4] => { results := [.lit (.bool true)], args := [d1, d2, d3, d4] }
  | _ => none }
def aluXchgRow : OpenClaim := { program := "ytmdncgfheeijaaagreat", sum := "e64f7565f05184b0556da2a983e08e1fa38a59760a012b654430f75e5d1a53a4", func := "saltern/salternlaw15.AluXchg", spec := "aluXchg", unfollowed := true, recurses := true, apart := false }
def AluXchgSaid : Prop := aluXchgRow.holds Tryz.pinned (OpenSpec.ofChange aluXchgSpec)

/-- ITS FALSE NEIGHBOUR: 'it returns false'. Refute it at one input. -/
def aluXchgWrong : ChangeSpec := { name := "aluXchg", fn := fun _ => fun
  | [d1, d2, d3, d4] => { results := [.lit (.bool false)], args := [d1, d2, d3, d4] }
  | _ => none }
def AluXchgWrongFalsely : Prop := aluXchgRow.holds Tryz.pinned (OpenSpec.ofChange aluXchgWrong)

/- THE SECOND FORM. 'bulk': how many values and letters a reading holds, each counted each time it is reached (what is shared counts as often as it is met; a slice's spare places count too). A statement '..UptoSaid' is the law's where the arguments, and the package variables that the reading takes, are together of bulk at most 1048576: NARROWER than '..Said'. Prove '..Said' where nothing that the law and all that it calls make is longer than what came in: it says more and counts as full. Else prove '..UptoSaid'. A law counts once. -/
mutual
def uptoBulk {H : Type} : DataW H → Nat
  | .lit (.string bytes) => bytes.length + 1
  | .lit _ => 1
  | .nil => 1
  | .ptr d => uptoBulk d + 1
  | .slice elems spare => uptoBulkAll elems + uptoBulkAll spare + 1
  | .agg parts => uptoBulkAll parts + 1
  | .iface _ d => uptoBulk d + 1
  | .map entries => uptoBulkEntries entries + 1
  | .held _ => 1
def uptoBulkAll {H : Type} : List (DataW H) → Nat
  | [] => 0
  | d :: r => uptoBulk d + uptoBulkAll r
def uptoBulkEntries {H : Type} : List (Lit × DataW H) → Nat
  | [] => 0
  | x :: r => uptoBulkEntry x + uptoBulkEntries r
def uptoBulkEntry {H : Type} : Lit × DataW H → Nat
  | (.string bytes, d) => bytes.length + uptoBulk d + 1
  | (_, d) => uptoBulk d + 1
 end
def uptoSmall : (H : Type) → List (DataW H) → Bool := fun _ ds => decide (uptoBulkAll ds ≤ 1048576)
def OpenSpec.upto (s : _root_.Go.ChangeSpec) : _root_.Go.OpenSpec := { _root_.Go.OpenSpec.ofChange s with cond := some uptoSmall }

/-- 'salternlaw15.AluTells', WHERE WHAT IT READS IS OF BULK AT MOST 1048576: true; the input reads as it did. -/
def aluTellsUptoRow : OpenClaim := { program := "ytmdncgfheeijaaagreat", sum := "e64f7565f05184b0556da2a983e08e1fa38a59760a012b654430f75e5d1a53a4", func := "saltern/salternlaw15.AluTells", spec := "aluTells", unfollowed := true, recurses := true, apart := false, narrowed := true }
def AluTellsUptoSaid : Prop := aluTellsUptoRow.holds Tryz.pinned (OpenSpec.upto aluTellsSpec)

/-- 'salternlaw15.AluRegs', WHERE WHAT IT READS IS OF BULK AT MOST 1048576: true; the input reads as it did. -/
def aluRegsUptoRow : OpenClaim := { program := "ytmdncgfheeijaaagreat", sum := "e64f7565f05184b0556da2a983e08e1fa38a59760a012b654430f75e5d1a53a4", func := "saltern/salternlaw15.AluRegs", spec := "aluRegs", unfollowed := true, recurses := true, apart := false, narrowed := true }
def AluRegsUptoSaid : Prop := aluRegsUptoRow.holds Tryz.pinned (OpenSpec.upto aluRegsSpec)

/-- 'salternlaw15.AluOps', WHERE WHAT IT READS IS OF BULK AT MOST 1048576: true; the input reads as it did. -/
def aluOpsUptoRow : OpenClaim := { program := "ytmdncgfheeijaaagreat", sum := "e64f7565f05184b0556da2a983e08e1fa38a59760a012b654430f75e5d1a53a4", func := "saltern/salternlaw15.AluOps", spec := "aluOps", unfollowed := true, recurses := true, apart := false, narrowed := true }
def AluOpsUptoSaid : Prop := aluOpsUptoRow.holds Tryz.pinned (OpenSpec.upto aluOpsSpec)

/-- 'salternlaw15.AluFails', WHERE WHAT IT READS IS OF BULK AT MOST 1048576: true; the input reads as it did. -/
def aluFailsUptoRow : OpenClaim := { program := "ytmdncgfheeijaaagreat", sum := "e64f7565f05184b0556da2a983e08e1fa38a59760a012b654430f75e5d1a53a4", func := "saltern/salternlaw15.AluFails", spec := "aluFails", unfollowed := true, recurses := true, apart := false, narrowed := true }
def AluFailsUptoSaid : Prop := aluFailsUptoRow.holds Tryz.pinned (OpenSpec.upto aluFailsSpec)

/-- 'salternlaw15.AluCarries', WHERE WHAT IT READS IS OF BULK AT MOST 1048576: true; the input reads as it did. -/
def aluCarriesUptoRow : OpenClaim := { program := "ytmdncgfheeijaaagreat", sum := "e64f7565f05184b0556da2a983e08e1fa38a59760a012b654430f75e5d1a53a4", func := "saltern/salternlaw15.AluCarries", spec := "aluCarries", unfollowed := true, recurses := true, apart := false, narrowed := true }
def AluCarriesUptoSaid : Prop := aluCarriesUptoRow.holds Tryz.pinned (OpenSpec.upto aluCarriesSpec)

/-- 'salternlaw15.AluXchg', WHERE WHAT IT READS IS OF BULK AT MOST 1048576: true; the input reads as it did. -/
def aluXchgUptoRow : OpenClaim := { program := "ytmdncgfheeijaaagreat", sum := "e64f7565f05184b0556da2a983e08e1fa38a59760a012b654430f75e5d1a53a4", func := "saltern/salternlaw15.AluXchg", spec := "aluXchg", unfollowed := true, recurses := true, apart := false, narrowed := true }
def AluXchgUptoSaid : Prop := aluXchgUptoRow.holds Tryz.pinned (OpenSpec.upto aluXchgSpec)

end Rows
end Go.Proofs.YtmdncgfheeijaaaGreat
