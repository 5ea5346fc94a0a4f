/- NoteMore: its runs. No condition. -/
import Derived.Test.YtpabnkbpklggnaaDoorNMH
import Derived.KernelRfl
namespace Go.Proofs.YtpabnkbpklggnaaDoor
open Go.RowKit
set_option linter.unusedVariables false
set_option maxRecDepth 100000

theorem q1AA : runQ1 (rgA 15 3) (rgA 16 15) = true := by kernel_rfl
theorem q1AB : runQ1 (rgA 15 3) (rgB 16 15) = true := by kernel_rfl
theorem q1AC : runQ1 (rgA 15 3) (rgC 16 15) = true := by kernel_rfl
theorem q1BA : runQ1 (rgB 15 3) (rgA 16 15) = true := by kernel_rfl
theorem q1BB : runQ1 (rgB 15 3) (rgB 16 15) = true := by kernel_rfl
end Go.Proofs.YtpabnkbpklggnaaDoor
