/- place.Check, walked. -/
import Derived.Test.YtgdbjkkhmamdmaaRows
import Derived.WalkKit
import Derived.WalkSpells
import Derived.ProofKit
import Derived.Outline
import Derived.Handy
import Derived.RowKit3
import Derived.Test.YtgdbjkkhmamdmaaK
namespace Go.Proofs.Ytgdbjkkhmamdmaa
open Go.RowKit

/-- May such a configuration be? -/
def Ok (a b c d e f g : Int) : Prop := (1 ≤ a ∧ a ≤ 4) ∧ (1 ≤ b ∧ b ≤ 16) ∧ (1 ≤ c ∧ c ≤ 8) ∧ (1 ≤ d ∧ d ≤ 4) ∧ (1 ≤ e ∧ e ≤ 16) ∧ (1 ≤ f ∧ f ≤ 8) ∧ (1 ≤ g ∧ g ≤ 4)
instance (a b c d e f g : Int) : Decidable (Ok a b c d e f g) := by unfold Ok; exact inferInstance
def chk (a b c d e f g : Int) : Int := if Ok a b c d e f g then 0 else 10
theorem chk_yes {a b c d e f g : Int} (h : Ok a b c d e f g) : chk a b c d e f g = 0 := if_pos h
theorem chk_no {a b c d e f g : Int} (h : ¬ Ok a b c d e f g) : chk a b c d e f g = 10 := if_neg h
theorem ix0 (a b c d e f g : Int) (w : World) : (Instr.index 48 (.agg #[.int .i64 a, .int .i64 4, .int .i64 b, .int .i64 16, .int .i64 c, .int .i64 8, .int .i64 d, .int .i64 4, .int .i64 e, .int .i64 16, .int .i64 f, .int .i64 8, .int .i64 g, .int .i64 4]) (.int .i64 0)).run Try.prog w = .ok (.agg #[.int .i64 a, .int .i64 4]) w := by kernel_rfl
theorem ix1 (a b c d e f g : Int) (w : World) : (Instr.index 48 (.agg #[.int .i64 a, .int .i64 4, .int .i64 b, .int .i64 16, .int .i64 c, .int .i64 8, .int .i64 d, .int .i64 4, .int .i64 e, .int .i64 16, .int .i64 f, .int .i64 8, .int .i64 g, .int .i64 4]) (.int .i64 1)).run Try.prog w = .ok (.agg #[.int .i64 b, .int .i64 16]) w := by kernel_rfl
theorem ix2 (a b c d e f g : Int) (w : World) : (Instr.index 48 (.agg #[.int .i64 a, .int .i64 4, .int .i64 b, .int .i64 16, .int .i64 c, .int .i64 8, .int .i64 d, .int .i64 4, .int .i64 e, .int .i64 16, .int .i64 f, .int .i64 8, .int .i64 g, .int .i64 4]) (.int .i64 2)).run Try.prog w = .ok (.agg #[.int .i64 c, .int .i64 8]) w := by kernel_rfl
theorem ix3 (a b c d e f g : Int) (w : World) : (Instr.index 48 (.agg #[.int .i64 a, .int .i64 4, .int .i64 b, .int .i64 16, .int .i64 c, .int .i64 8, .int .i64 d, .int .i64 4, .int .i64 e, .int .i64 16, .int .i64 f, .int .i64 8, .int .i64 g, .int .i64 4]) (.int .i64 3)).run Try.prog w = .ok (.agg #[.int .i64 d, .int .i64 4]) w := by kernel_rfl
theorem ix4 (a b c d e f g : Int) (w : World) : (Instr.index 48 (.agg #[.int .i64 a, .int .i64 4, .int .i64 b, .int .i64 16, .int .i64 c, .int .i64 8, .int .i64 d, .int .i64 4, .int .i64 e, .int .i64 16, .int .i64 f, .int .i64 8, .int .i64 g, .int .i64 4]) (.int .i64 4)).run Try.prog w = .ok (.agg #[.int .i64 e, .int .i64 16]) w := by kernel_rfl
theorem ix5 (a b c d e f g : Int) (w : World) : (Instr.index 48 (.agg #[.int .i64 a, .int .i64 4, .int .i64 b, .int .i64 16, .int .i64 c, .int .i64 8, .int .i64 d, .int .i64 4, .int .i64 e, .int .i64 16, .int .i64 f, .int .i64 8, .int .i64 g, .int .i64 4]) (.int .i64 5)).run Try.prog w = .ok (.agg #[.int .i64 f, .int .i64 8]) w := by kernel_rfl
theorem ix6 (a b c d e f g : Int) (w : World) : (Instr.index 48 (.agg #[.int .i64 a, .int .i64 4, .int .i64 b, .int .i64 16, .int .i64 c, .int .i64 8, .int .i64 d, .int .i64 4, .int .i64 e, .int .i64 16, .int .i64 f, .int .i64 8, .int .i64 g, .int .i64 4]) (.int .i64 6)).run Try.prog w = .ok (.agg #[.int .i64 g, .int .i64 4]) w := by kernel_rfl
set_option maxHeartbeats 4000000 in
set_option maxRecDepth 100000 in
theorem check_any (a b c d e f g : Int) (w : World) :
    Calls Try.prog 8 #[.agg #[.int .i64 a, .int .i64 b, .int .i64 c, .int .i64 d, .int .i64 e, .int .i64 f, .int .i64 g]] w fun r w' => r = .returned (.int .i64 (chk a b c d e f g)) ∧ Below w.heap.size w w' := by
  have i0 := ix0 a b c d e f g
  have i1 := ix1 a b c d e f g
  have i2 := ix2 a b c d e f g
  have i3 := ix3 a b c d e f g
  have i4 := ix4 a b c d e f g
  have i5 := ix5 a b c d e f g
  have i6 := ix6 a b c d e f g
  go_enter Try.func8, Try.ntmps8
  go_wp2
  go_step3
  go_wp2
  go_step3
  go_wp2
  refine wp_loop_rounds 8 ?_
  repeat any_goals (rw [rounds_succ]; go_wp2)
  all_goals try rw [Exit.noGoto_ret]
  all_goals go_ret
  all_goals refine ⟨?_, by repeat (first | exact Below.refl _ _ | refine Below.alloc ?_ (by simp; try omega) _)⟩
  all_goals clear i0 i1 i2 i3 i4 i5 i6
  all_goals first | (refine ret_int (chk_no (fun h => ?_)).symm; unfold Ok at h; omega) | (refine ret_int (chk_yes ?_).symm; unfold Ok; omega)
theorem check_yes (a b c d e f g : Int) (h : Ok a b c d e f g) (w : World) : Calls Try.prog 8 #[.agg #[.int .i64 a, .int .i64 b, .int .i64 c, .int .i64 d, .int .i64 e, .int .i64 f, .int .i64 g]] w fun r w' => r = .returned (.int .i64 0) ∧ Below w.heap.size w w' := by
  have k := check_any a b c d e f g w; rw [chk_yes h] at k; exact k
theorem check_no (a b c d e f g : Int) (h : ¬ Ok a b c d e f g) (w : World) : Calls Try.prog 8 #[.agg #[.int .i64 a, .int .i64 b, .int .i64 c, .int .i64 d, .int .i64 e, .int .i64 f, .int .i64 g]] w fun r w' => r = .returned (.int .i64 10) ∧ Below w.heap.size w w' := by
  have k := check_any a b c d e f g w; rw [chk_no h] at k; exact k
theorem check_v (a b c d e f g : Int) (o : Bool) (h : decide (Ok a b c d e f g) = o) (w : World) : Calls Try.prog 8 #[.agg #[.int .i64 a, .int .i64 b, .int .i64 c, .int .i64 d, .int .i64 e, .int .i64 f, .int .i64 g]] w fun r w' => r = .returned (.int .i64 (if o then 0 else 10)) ∧ Below w.heap.size w w' := by
  cases o
  · exact check_no a b c d e f g (of_decide_eq_false h) w
  · exact check_yes a b c d e f g (of_decide_eq_true h) w
end Go.Proofs.Ytgdbjkkhmamdmaa
