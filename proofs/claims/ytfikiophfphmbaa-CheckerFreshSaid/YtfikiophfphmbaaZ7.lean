/- Which checkers there may be, and how many calls. -/
import Derived.Test.YtfikiophfphmbaaZ0
import Derived.WalkKit
import Derived.WalkSpells
import Derived.ProofKit
import Derived.Outline
import Derived.Handy
import Derived.RowKit3
import Derived.BigQuiet
import Derived.Deep.QuietTactic
import Derived.Deep.RegionHeld3
import Derived.Deep.Draws
import Derived.Deep.RegionLaw
import Derived.RegionTactic
import Derived.BigRegion
import Derived.IntWalk
import Derived.LoopTactic
import Derived.OwnWalk
import Derived.Laws.AppendOwn
import Derived.Laws.OwnMore
import Derived.Laws.MakeOwn
import Derived.Laws.Pointers
import Derived.Maps.AppendAt
import Derived.Deep.AppendLies
import Derived.Below
namespace Go.Proofs.Ytfikiophfphmbaa
open Go.RowKit
set_option linter.unusedVariables false
set_option maxRecDepth 100000

theorem mayb (a b : Int) (v : Bool) (hv : decide (1 ≤ a ∧ a ≤ 8 ∧ 1 ≤ b ∧ b ≤ 16) = v) (w : World) : Calls Try.prog 7 #[.int .i64 a, .int .i64 b] w fun r w' => r = .returned (.bool v) ∧ w = w' := by
  subst hv
  by_cases h1 : 1 ≤ a <;> by_cases h2 : a ≤ 8 <;> by_cases h3 : 1 ≤ b <;> by_cases h4 : b ≤ 16
  all_goals
    go_enter Try.func7, Try.ntmps7
    go_wp2
    go_ret
    exact ⟨ret_bool (by simp [h1, h2, h3, h4]), rfl⟩
theorem fewb (av : Option Addr) (L c : Nat) (v : Bool) (hv : decide (L ≤ 80) = v) (w : World) : Calls Try.prog 19 #[.slice av L c] w fun r w' => r = .returned (.bool v) ∧ w = w' := by
  subst hv
  go_enter Try.func19, Try.ntmps19
  go_wp2
  go_ret
  exact ⟨ret_bool (by rw [decide_eq_decide]; omega), rfl⟩
theorem OpsIn.next {w w' : World} {av : Option Addr} {L : Nat} {A B C D : Nat → Int} (h : OpsIn w av L A B C D) (hb : Below w.heap.size w w') : OpsIn w' av L A B C D := by
  rcases h with h | ⟨b, off, h1, h2, h3⟩
  · exact .inl h
  · exact .inr ⟨b, off, h1, Nat.lt_of_lt_of_le h2 hb.size, fun i hi => ⟨cell_next hb h2 (h3 i hi).1, cell_next hb h2 (h3 i hi).2.1, cell_next hb h2 (h3 i hi).2.2.1, cell_next hb h2 (h3 i hi).2.2.2⟩⟩
end Go.Proofs.Ytfikiophfphmbaa
