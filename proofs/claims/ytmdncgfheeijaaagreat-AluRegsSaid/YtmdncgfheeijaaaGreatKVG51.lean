import Derived.Test.YtmdncgfheeijaaaGreatKVG18
namespace Go.Proofs.YtmdncgfheeijaaaGreat
set_option maxRecDepth 100000
theorem stepQ_b(s:Sta)(x n i:Int):0≤(stepQ s x n i).v∧(stepQ s x n i).v<4294967296:=⟨stepV_lo _ _ _,stepV_hi _ _ _⟩
end Go.Proofs.YtmdncgfheeijaaaGreat
