/- NoteMore: its runs. No condition. -/
import Derived.Test.YtpabnkbpklggnaaDoorNMH
import Derived.KernelRfl
namespace Go.Proofs.YtpabnkbpklggnaaDoor
open Go.RowKit
set_option linter.unusedVariables false
set_option maxRecDepth 100000

theorem q1BC : runQ1 (rgB 15 3) (rgC 16 15) = true := by kernel_rfl
theorem q1CA : runQ1 (rgC 15 3) (rgA 16 15) = true := by kernel_rfl
theorem q1CB : runQ1 (rgC 15 3) (rgB 16 15) = true := by kernel_rfl
theorem q1CC : runQ1 (rgC 15 3) (rgC 16 15) = true := by kernel_rfl
end Go.Proofs.YtpabnkbpklggnaaDoor
