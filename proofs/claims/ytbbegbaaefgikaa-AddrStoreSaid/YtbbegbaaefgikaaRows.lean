/-
  No cell of these rows narrows 'for every input' (looked for: loops, veiled, ifaces, maps, wideKeys, modest, calm, conditions, laid).
  DERIVED. THE GIVEN ROWS OF THIS SEAT. 2 by the template 'for every input the law returns true; each argument reads behind the call as it read before'; 0 by the template 'total and deterministic' (their statements: YtbbegbaaefgikaaTotals.lean).
  GIVEN WITH THE SEED: the statements are not yours to turn. If you find one false, say at which input.
  Laid BY PROGRAM, IN A SANDBOX (cutbox-rows.mjs): the forced cells as the released guide's own fill.sh prints them over the translation a9e6408e3966995d… (all of the seat's roots in one cut). By AI agents, Wed Nov 11 2026. No macro, syntax, notation, axiom, sorry.
-/
import Derived.Test.YtbbegbaaefgikaaChecked
import GoSem.Claim
import GoSem.ClaimJoined
import GoSem.ClaimMapViews
import Derived.JoinedTies
import Derived.KernelRfl
namespace Go.Proofs.Ytbbegbaaefgikaa
/- THE CELL 'sum', in the pinned program and in every row, IS THE sha256 OF THE DUMP (.gsa) THAT YtbbegbaaefgikaaProg.lean LOADS. Nothing in Lean hashes anything: it is a label: what it is worth is what the hold of that sum in a sandbox is worth. -/
noncomputable def Try.pinned : Pinned := { name := "ytbbegbaaefgikaa", sum := "a9e6408e3966995d8615e89008c99e3836e481e94da94ccdfac360f8ae5926f3", checked := Try.checked }
namespace Rows
def none {H : Type} : Left H := { results := [], args := [] }

/-- 'salternlaw14.AddrRound': WHATEVER THE INPUT: true; the input reads as it did. -/
def addrRoundSpec : ChangeSpec := { name := "addrRound", fn := fun _ => fun
  | [d1, d2, d3, d4, d5] => { results := [.lit (.bool true)], args := [d1, d2, d3, d4, d5] }
  | _ => none }
def addrRoundRow : OpenClaim := { program := "ytbbegbaaefgikaa", sum := "a9e6408e3966995d8615e89008c99e3836e481e94da94ccdfac360f8ae5926f3", func := "saltern/salternlaw14.AddrRound", spec := "addrRound", apart := false }
def AddrRoundSaid : Prop := addrRoundRow.holds Try.pinned (OpenSpec.ofChange addrRoundSpec)

/-- ITS FALSE NEIGHBOUR: 'it returns false'. Refute it at one input. -/
def addrRoundWrong : ChangeSpec := { name := "addrRound", fn := fun _ => fun
  | [d1, d2, d3, d4, d5] => { results := [.lit (.bool false)], args := [d1, d2, d3, d4, d5] }
  | _ => none }
def AddrRoundWrongFalsely : Prop := addrRoundRow.holds Try.pinned (OpenSpec.ofChange addrRoundWrong)

/-- 'salternlaw14.AddrStore': WHATEVER THE INPUT: true; the input reads as it did. -/
def addrStoreSpec : ChangeSpec := { name := "addrStore", fn := fun _ => fun
  | [d1, d2, d3, d4] => { results := [.lit (.bool true)], args := [d1, d2, d3, d4] }
  | _ => none }
def addrStoreRow : OpenClaim := { program := "ytbbegbaaefgikaa", sum := "a9e6408e3966995d8615e89008c99e3836e481e94da94ccdfac360f8ae5926f3", func := "saltern/salternlaw14.AddrStore", spec := "addrStore", apart := false }
def AddrStoreSaid : Prop := addrStoreRow.holds Try.pinned (OpenSpec.ofChange addrStoreSpec)

/-- ITS FALSE NEIGHBOUR: 'it returns false'. Refute it at one input. -/
def addrStoreWrong : ChangeSpec := { name := "addrStore", fn := fun _ => fun
  | [d1, d2, d3, d4] => { results := [.lit (.bool false)], args := [d1, d2, d3, d4] }
  | _ => none }
def AddrStoreWrongFalsely : Prop := addrStoreRow.holds Try.pinned (OpenSpec.ofChange addrStoreWrong)

/- THE SECOND FORM. 'bulk': how many values and letters a reading holds, each counted each time it is reached (what is shared counts as often as it is met; a slice's spare places count too). A statement '..UptoSaid' is the law's where the arguments, and the package variables that the reading takes, are together of bulk at most 1048576: NARROWER than '..Said'. Prove '..Said' where nothing that the law and all that it calls make is longer than what came in: it says more and counts as full. Else prove '..UptoSaid'. A law counts once. -/
mutual
def uptoBulk {H : Type} : DataW H → Nat
  | .lit (.string bytes) => bytes.length + 1
  | .lit _ => 1
  | .nil => 1
  | .ptr d => uptoBulk d + 1
  | .slice elems spare => uptoBulkAll elems + uptoBulkAll spare + 1
  | .agg parts => uptoBulkAll parts + 1
  | .iface _ d => uptoBulk d + 1
  | .map entries => uptoBulkEntries entries + 1
  | .held _ => 1
def uptoBulkAll {H : Type} : List (DataW H) → Nat
  | [] => 0
  | d :: r => uptoBulk d + uptoBulkAll r
def uptoBulkEntries {H : Type} : List (Lit × DataW H) → Nat
  | [] => 0
  | x :: r => uptoBulkEntry x + uptoBulkEntries r
def uptoBulkEntry {H : Type} : Lit × DataW H → Nat
  | (.string bytes, d) => bytes.length + uptoBulk d + 1
  | (_, d) => uptoBulk d + 1
 end
def uptoSmall : (H : Type) → List (DataW H) → Bool := fun _ ds => decide (uptoBulkAll ds ≤ 1048576)
def OpenSpec.upto (s : _root_.Go.ChangeSpec) : _root_.Go.OpenSpec := { _root_.Go.OpenSpec.ofChange s with cond := some uptoSmall }

/-- 'salternlaw14.AddrRound', WHERE WHAT IT READS IS OF BULK AT MOST 1048576: true; the input reads as it did. -/
def addrRoundUptoRow : OpenClaim := { program := "ytbbegbaaefgikaa", sum := "a9e6408e3966995d8615e89008c99e3836e481e94da94ccdfac360f8ae5926f3", func := "saltern/salternlaw14.AddrRound", spec := "addrRound", apart := false, narrowed := true }
def AddrRoundUptoSaid : Prop := addrRoundUptoRow.holds Try.pinned (OpenSpec.upto addrRoundSpec)

/-- 'salternlaw14.AddrStore', WHERE WHAT IT READS IS OF BULK AT MOST 1048576: true; the input reads as it did. -/
def addrStoreUptoRow : OpenClaim := { program := "ytbbegbaaefgikaa", sum := "a9e6408e3966995d8615e89008c99e3836e481e94da94ccdfac360f8ae5926f3", func := "saltern/salternlaw14.AddrStore", spec := "addrStore", apart := false, narrowed := true }
def AddrStoreUptoSaid : Prop := addrStoreUptoRow.holds Try.pinned (OpenSpec.upto addrStoreSpec)

end Rows
end Go.Proofs.Ytbbegbaaefgikaa
