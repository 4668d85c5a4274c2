/- What an iterator of numbers gives is collected (slices.AppendSeq, slices.Collect). -/
import Derived.Test.YtkmoefgoolhegaaKeys
namespace Go.Proofs.Ytkmoefgoolhegaa
open Go.RowKit Go.Maps Go.Shelf
attribute [local go_sem] Oper.semAt_some

theorem info_u32 : (Try.prog.info? 22).map (fun i => (i.zero, i.size, i.bytes)) = some (some (.int .u32 0), 1, 4) := by kernel_rfl
end Go.Proofs.Ytkmoefgoolhegaa
