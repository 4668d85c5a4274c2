/- The document's own memory is written. -/
import Derived.Test.YtplghmkicdpbfaaRef6
import Derived.StillTailTactics
import Derived.Deep.DeepCutAuto
namespace Go.Proofs.Ytplghmkicdpbfaa
open Go.ChangeShapes Go.WideShapes Go.ChangeAt Go.RowKit Go.Maps Go.Deep

def writeG (g : Int → Int) (a : Int) (bs : Nat → Int) : Nat → Int → Int
  | 0 => g
  | k + 1 => setG (writeG g a bs k) (place a k) (bs k)
end Go.Proofs.Ytplghmkicdpbfaa
