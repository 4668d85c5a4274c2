/- Pages of the landed memory. -/
import Derived.Test.YtkmoefgoolhegaaPagesA
namespace Go.Proofs.Ytkmoefgoolhegaa
open Go.ChangeShapes Go.WideShapes Go.ChangeAt Go.RowKit Go.Maps Go.Deep Go.Sort Go.Shelf

end Go.Proofs.Ytkmoefgoolhegaa
