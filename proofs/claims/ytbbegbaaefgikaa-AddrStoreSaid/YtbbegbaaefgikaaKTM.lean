import Derived.Test.YtbbegbaaefgikaaKTL
namespace Go.Proofs.Ytbbegbaaefgikaa
open Go.ChangeShapes Go.WideShapes Go.ChangeAt Go.RowKit Go.Maps Go.Deep Go.Sort
end Go.Proofs.Ytbbegbaaefgikaa
