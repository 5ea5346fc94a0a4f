/- Which answers some calls of package note and of the document's answer give: trees, reckoned once. No condition. -/
import Derived.Test.YtpabnkbpklggnaaDoorV30
import Derived.Test.YtpabnkbpklggnaaDoorY03
namespace Go.Proofs.YtpabnkbpklggnaaDoor
open Go.RowKit
set_option linter.unusedVariables false
set_option maxRecDepth 100000

noncomputable def patC0 : List SV := [.agg [.int .i64 (.at 0), .int .i64 (.at 1), .int .i64 (.at 2), .int .i64 (.at 3), .int .i64 (.at 4), .int .i64 (.at 5), .int .i64 (.at 6)], .agg [.int .i64 (.at 7), .int .i64 (.at 8), .int .i64 (.at 9), .int .i64 (.at 10), .int .i64 (.at 11), .int .i64 (.at 12), .int .i64 (.at 13), .bool false, .int .i64 (.at 14)]]
noncomputable def runC0 (A : Asm) : R (SV × SH × Nat) := (rk ⟨Tryd.prog, A, 5⟩ {} 3000).call 12 patC0 (tabHeap tsY03) 5
noncomputable def patC1 : List SV := [.agg [.int .i64 (.at 0), .int .i64 (.at 1), .int .i64 (.at 2), .int .i64 (.at 3), .int .i64 (.at 4), .int .i64 (.at 5), .int .i64 (.at 6)], .agg [.int .i64 (.at 7), .int .i64 (.at 8), .int .i64 (.at 9), .int .i64 (.at 10), .int .i64 (.at 11), .int .i64 (.at 12), .int .i64 (.at 13), .bool true, .int .i64 (.at 14)]]
noncomputable def runC1 (A : Asm) : R (SV × SH × Nat) := (rk ⟨Tryd.prog, A, 5⟩ {} 3000).call 12 patC1 (tabHeap tsY03) 5
noncomputable def patM1 : List SV := [.agg [.int .i64 (.at 0), .int .i64 (.at 1), .int .i64 (.at 2), .int .i64 (.at 3), .int .i64 (.at 4), .int .i64 (.at 5), .int .i64 (.at 6)]]
noncomputable def runM1 (A : Asm) : R (SV × SH × Nat) := (rk ⟨Tryd.prog, A, 5⟩ {} 3000).call 11 patM1 (tabHeap tsY03) 5
noncomputable def patL8 : List SV := [.int .i64 (.at 0)]
noncomputable def runL8 (A : Asm) : R (SV × SH × Nat) := (rk ⟨Tryd.prog, A, 5⟩ {} 3000).call 8 patL8 (tabHeap tsY03) 5
noncomputable def patL9 : List SV := [.int .i64 (.at 0)]
noncomputable def runL9 (A : Asm) : R (SV × SH × Nat) := (rk ⟨Tryd.prog, A, 5⟩ {} 3000).call 9 patL9 (tabHeap tsY03) 5
noncomputable def patH10 : List SV := [.int .i64 (.at 0)]
noncomputable def runH10 (A : Asm) : R (SV × SH × Nat) := (rk ⟨Tryd.prog, A, 5⟩ {} 3000).call 10 patH10 (tabHeap tsY03) 5
noncomputable def patR0 : List SV := [.agg [.int .i64 (.at 0), .int .i64 (.at 1)], .agg [.int .i64 (.at 2), .int .i64 (.at 3), .int .i64 (.at 4), .int .i64 (.at 5), .int .i64 (.at 6), .int .i64 (.at 7), .int .i64 (.at 8), .bool false, .int .i64 (.at 9)]]
noncomputable def runR0 (A : Asm) : R (SV × SH × Nat) := (rk ⟨Tryd.prog, A, 5⟩ {} 3000).call 14 patR0 (tabHeap tsY03) 5
noncomputable def patR1 : List SV := [.agg [.int .i64 (.at 0), .int .i64 (.at 1)], .agg [.int .i64 (.at 2), .int .i64 (.at 3), .int .i64 (.at 4), .int .i64 (.at 5), .int .i64 (.at 6), .int .i64 (.at 7), .int .i64 (.at 8), .bool true, .int .i64 (.at 9)]]
noncomputable def runR1 (A : Asm) : R (SV × SH × Nat) := (rk ⟨Tryd.prog, A, 5⟩ {} 3000).call 14 patR1 (tabHeap tsY03) 5
end Go.Proofs.YtpabnkbpklggnaaDoor
