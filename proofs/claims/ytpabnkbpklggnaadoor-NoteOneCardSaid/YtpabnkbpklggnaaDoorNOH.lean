/- The reckoner. -/
import Derived.Test.YtpabnkbpklggnaaDoorJO
import Derived.KernelRfl
namespace Go.Proofs.YtpabnkbpklggnaaDoor
open Go.RowKit
set_option linter.unusedVariables false
set_option maxRecDepth 100000

noncomputable def runNO0 (A : Asm) : Bool := isTrueR ((rk ⟨Tryd.prog, A, 5⟩ (B3 A) 3000).call 5 [.agg [.int .i64 (.at 0), .int .i64 (.at 1), .int .i64 (.at 2), .int .i64 (.at 3), .int .i64 (.at 4), .int .i64 (.at 5), .int .i64 (.at 6)], .agg [.int .i64 (.at 7), .int .i64 (.at 8), .int .i64 (.at 9), .int .i64 (.at 10), .int .i64 (.at 11), .int .i64 (.at 12), .int .i64 (.at 13), .bool false, .int .i64 (.at 14)], .int .i64 (.at 15)] (tabHeap tsY03) 5)
noncomputable def runNO1 (A : Asm) : Bool := isTrueR ((rk ⟨Tryd.prog, A, 5⟩ (B3 A) 3000).call 5 [.agg [.int .i64 (.at 0), .int .i64 (.at 1), .int .i64 (.at 2), .int .i64 (.at 3), .int .i64 (.at 4), .int .i64 (.at 5), .int .i64 (.at 6)], .agg [.int .i64 (.at 7), .int .i64 (.at 8), .int .i64 (.at 9), .int .i64 (.at 10), .int .i64 (.at 11), .int .i64 (.at 12), .int .i64 (.at 13), .bool true, .int .i64 (.at 14)], .int .i64 (.at 15)] (tabHeap tsY03) 5)
end Go.Proofs.YtpabnkbpklggnaaDoor
