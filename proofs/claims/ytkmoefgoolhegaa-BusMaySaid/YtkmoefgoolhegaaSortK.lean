/- The whole sort of a row of numbers of 32 bits. -/
import Derived.Test.YtkmoefgoolhegaaSortJ
namespace Go.Proofs.Ytkmoefgoolhegaa
open Go.ChangeShapes Go.WideShapes Go.ChangeAt Go.RowKit Go.Maps Go.Deep Go.Sort

end Go.Proofs.Ytkmoefgoolhegaa
