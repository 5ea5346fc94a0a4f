/- The reference's Letter, Load, Store, Dirty, Owner, Probed, walked. -/
import Derived.Test.YtijhndmmljicmaaDoorB
import Derived.WalkKit
import Derived.WalkSpells
import Derived.ProofKit
import Derived.Outline
import Derived.Handy
import Derived.RowKit3
import Derived.BigQuiet
import Derived.Deep.QuietTactic
import Derived.Deep.RegionHeld3
import Derived.IntWalk
namespace Go.Proofs.YtijhndmmljicmaaDoor
open Go.RowKit
set_option linter.unusedVariables false
set_option maxRecDepth 100000

theorem letter_0 (w : World) : Calls Tryd.prog 20 #[.int .i64 0] w fun r w' => r = .returned (.string ⟨#[73]⟩) ∧ w = w' := by
  go_enter Tryd.func20, Tryd.ntmps20
  go_wp2
  go_ret
  exact ⟨rfl, rfl⟩

theorem letter_1 (w : World) : Calls Tryd.prog 20 #[.int .i64 1] w fun r w' => r = .returned (.string ⟨#[83]⟩) ∧ w = w' := by
  go_enter Tryd.func20, Tryd.ntmps20
  go_wp2
  go_ret
  exact ⟨rfl, rfl⟩

theorem letter_2 (w : World) : Calls Tryd.prog 20 #[.int .i64 2] w fun r w' => r = .returned (.string ⟨#[69]⟩) ∧ w = w' := by
  go_enter Tryd.func20, Tryd.ntmps20
  go_wp2
  go_ret
  exact ⟨rfl, rfl⟩

theorem letter_3 (w : World) : Calls Tryd.prog 20 #[.int .i64 3] w fun r w' => r = .returned (.string ⟨#[79]⟩) ∧ w = w' := by
  go_enter Tryd.func20, Tryd.ntmps20
  go_wp2
  go_ret
  exact ⟨rfl, rfl⟩

theorem letter_4 (w : World) : Calls Tryd.prog 20 #[.int .i64 4] w fun r w' => r = .returned (.string ⟨#[77]⟩) ∧ w = w' := by
  go_enter Tryd.func20, Tryd.ntmps20
  go_wp2
  go_ret
  exact ⟨rfl, rfl⟩

theorem letter_out (s : Int) (h : isB s = false) (w : World) : Calls Tryd.prog 20 #[.int .i64 s] w fun r w' => r = .returned (.string ⟨#[]⟩) ∧ w = w' := by
  have h' : ¬ (0 ≤ s ∧ s ≤ 4) := by unfold isB at h; simpa using h
  clear h
  by_cases h0 : s < 0
  · go_enter Tryd.func20, Tryd.ntmps20
    go_wp2
    go_ret
    exact ⟨rfl, rfl⟩
  · have h4 : 4 < s := by omega
    clear h'
    go_enter Tryd.func20, Tryd.ntmps20
    go_wp2
    go_ret
    exact ⟨rfl, rfl⟩
end Go.Proofs.YtijhndmmljicmaaDoor
