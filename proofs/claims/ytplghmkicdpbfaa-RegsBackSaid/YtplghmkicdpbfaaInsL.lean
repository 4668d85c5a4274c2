/- Instructions that lie whole in a block: their cells, stored, read. -/
import Derived.Test.YtplghmkicdpbfaaPure10m
import Derived.Test.YtplghmkicdpbfaaAnsw
namespace Go.Proofs.Ytplghmkicdpbfaa
open Go.ChangeShapes Go.WideShapes Go.ChangeAt Go.RowKit

def insL (i : Ins) : List Value := [.int .i64 i.op, .int .i64 i.cond, .int .i64 i.size, .int .i64 i.a.kind, .int .i64 i.a.reg, .int .i64 i.a.base, .int .i64 i.a.index, .int .i64 i.a.scale, .int .u32 i.a.disp, .int .i64 i.b.kind, .int .i64 i.b.reg, .int .i64 i.b.base, .int .i64 i.b.index, .int .i64 i.b.scale, .int .u32 i.b.disp, .int .u32 i.c, .bool i.rep, .int .i64 i.len]
/-- an instruction of noughts -/
def zeroA : Array Value := #[.int .i64 0, .int .i64 0, .int .i64 0, .int .i64 0, .int .i64 0, .int .i64 0, .int .i64 0, .int .i64 0, .int .u32 0, .int .i64 0, .int .i64 0, .int .i64 0, .int .i64 0, .int .i64 0, .int .u32 0, .int .u32 0, .bool false, .int .i64 0]
theorem ins_one (i : Ins) : (insL i).toArray.all (·.oneCell') = true := by simp [insL, Value.oneCell']
end Go.Proofs.Ytplghmkicdpbfaa
