/- Two segments of the document's own: are they apart? -/
import Derived.Test.YtkmoefgoolhegaaRef7
namespace Go.Proofs.Ytkmoefgoolhegaa
open Go.ChangeShapes Go.WideShapes Go.ChangeAt Go.RowKit

end Go.Proofs.Ytkmoefgoolhegaa
