import Derived.Test.YtbbegbaaefgikaaRows
import Derived.ProofKit
import Derived.OpenShut
import Derived.BigRegion
import Derived.Lib.Hide
import Derived.WalkLawsBesides
import Derived.Test.YtbbegbaaefgikaaKTI
namespace Go.Proofs.Ytbbegbaaefgikaa
open Go.ChangeShapes Go.WideShapes Go.ChangeAt Go.RowKit
end Go.Proofs.Ytbbegbaaefgikaa
