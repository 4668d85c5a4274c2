/- Parting a row by a pivot, where none is less than it. -/
import Derived.Test.YtkmoefgoolhegaaSortF
import Derived.Deep.CutBlock
namespace Go.Proofs.Ytkmoefgoolhegaa
open Go.ChangeShapes Go.WideShapes Go.ChangeAt Go.RowKit Go.Maps Go.Deep Go.Sort

end Go.Proofs.Ytkmoefgoolhegaa
