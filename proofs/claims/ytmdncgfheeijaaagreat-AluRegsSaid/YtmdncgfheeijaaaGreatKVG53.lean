import Derived.Test.YtmdncgfheeijaaaGreatKVG25
import Derived.Test.YtmdncgfheeijaaaGreatKVG46
import Derived.Test.YtmdncgfheeijaaaGreatKVG47
import Derived.Test.YtmdncgfheeijaaaGreatKVG48
import Derived.Test.YtmdncgfheeijaaaGreatKVG52
namespace Go.Proofs.YtmdncgfheeijaaaGreat
section
open Go.ChangeShapes Go.WideShapes Go.ChangeAt Go.RowKit
set_option maxRecDepth 100000
theorem rdone_any:RDoneC:=by
 intro rb R g cc dd s I x y hs hA hB hc x0 x1 y0 y1 w hR
 by_cases ha:I.op∈([1,3,6,8,4,5,9,2]:List Int)
 ·exact rdone_a rb R g cc dd s I x y hs hA hB hc x0 x1 y0 y1 w hR ha
 by_cases hb:I.op∈([7,10,11,16,17,18,19,20]:List Int)
 ·exact rdone_b rb R g cc dd s I x y hs hA hB hc x0 x1 y0 y1 w hR hb
 by_cases hd:I.op∈([35,36,25,26,27,28,29,30]:List Int)
 ·exact rdone_c rb R g cc dd s I x y hs hA hB hc x0 x1 y0 y1 w hR hd
 refine rdone_d rb R g cc dd s I x y hs hA hB hc x0 x1 y0 y1 w hR (fun h=>?_)
 have h:I.op∈([1,3,6,8,4,5,9,2]++([7,10,11,16,17,18,19,20]++[35,36,25,26,27,28,29,30]):List Int):=h
 rcases List.mem_append.1 h with h|h
 ·exact ha h
 ·exact(List.mem_append.1 h).elim hb hd
end
section
set_option maxRecDepth 100000
theorem ralu15_any:RAluC 29:=fun rb R g cc dd s I hs ha hb hc w hR=>rAlu13_any rdone_any rb R g cc dd s I hs ha hb hc w hR
end
end Go.Proofs.YtmdncgfheeijaaaGreat
