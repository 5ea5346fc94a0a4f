/- NoteMore: its runs. No condition. -/
import Derived.Test.YtpabnkbpklggnaaDoorNMH
import Derived.KernelRfl
namespace Go.Proofs.YtpabnkbpklggnaaDoor
open Go.RowKit
set_option linter.unusedVariables false
set_option maxRecDepth 100000

theorem q0BC : runQ0 (rgB 15 3) (rgC 16 15) = true := by kernel_rfl
theorem q0CA : runQ0 (rgC 15 3) (rgA 16 15) = true := by kernel_rfl
theorem q0CB : runQ0 (rgC 15 3) (rgB 16 15) = true := by kernel_rfl
theorem q0CC : runQ0 (rgC 15 3) (rgC 16 15) = true := by kernel_rfl
end Go.Proofs.YtpabnkbpklggnaaDoor
