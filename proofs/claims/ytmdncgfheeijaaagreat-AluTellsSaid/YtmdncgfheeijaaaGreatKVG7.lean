import Derived.Deep.CutBlock
import Derived.Test.YtmdncgfheeijaaaGreatKVG6
namespace Go.Proofs.YtmdncgfheeijaaaGreat
open Go.ChangeShapes Go.WideShapes Go.ChangeAt Go.RowKit Go.Maps Go.Deep Go.Sort
end Go.Proofs.YtmdncgfheeijaaaGreat
