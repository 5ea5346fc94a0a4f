/- May, and the reference's May, walked. -/
import Derived.Test.YtgdbjkkhmamdmaaD
import Derived.WalkKit
import Derived.WalkSpells
import Derived.ProofKit
import Derived.Outline
import Derived.Handy
import Derived.RowKit3
import Derived.BigQuiet
import Derived.Deep.QuietTactic
namespace Go.Proofs.Ytgdbjkkhmamdmaa
open Go.RowKit
set_option maxRecDepth 100000

set_option maxHeartbeats 2000000 in
theorem refmay (a b c d e f g : Int) (w : World) : Calls Try.prog 19 #[.agg #[.int .i64 a, .int .i64 b, .int .i64 c, .int .i64 d, .int .i64 e, .int .i64 f, .int .i64 g]] w fun r w' => r = .returned (.bool (decide (Ok a b c d e f g))) ∧ Below w.heap.size w w' := by
  go_enter Try.func19, Try.ntmps19
  go_wp2
  refine wp_loop_rounds 8 ?_
  rw [rounds_succ]
  go_wp2
  by_cases h0 : a < 1
  · have hd : decide (a < 1) = true := by simpa using h0
    go_quiet (fail)
    go_wp2
    go_ret
    exact ⟨ret_bool (decide_eq_false (fun k => by unfold Ok at k; omega)).symm, (by repeat (first | exact Below.refl _ _ | refine below_drewN ?_ _ | refine Below.alloc ?_ (by simp; try omega) _))⟩
  have hd : decide (a < 1) = false := by simpa using h0
  go_quiet (fail)
  go_wp2
  ·
    go_ret
    exact ⟨ret_bool (decide_eq_false (fun k => by unfold Ok at k; omega)).symm, (by repeat (first | exact Below.refl _ _ | refine below_drewN ?_ _ | refine Below.alloc ?_ (by simp; try omega) _))⟩
  clear hd
  rw [rounds_succ]
  go_wp2
  by_cases h1 : b < 1
  · have hd : decide (b < 1) = true := by simpa using h1
    go_quiet (fail)
    go_wp2
    go_ret
    exact ⟨ret_bool (decide_eq_false (fun k => by unfold Ok at k; omega)).symm, (by repeat (first | exact Below.refl _ _ | refine below_drewN ?_ _ | refine Below.alloc ?_ (by simp; try omega) _))⟩
  have hd : decide (b < 1) = false := by simpa using h1
  go_quiet (fail)
  go_wp2
  ·
    go_ret
    exact ⟨ret_bool (decide_eq_false (fun k => by unfold Ok at k; omega)).symm, (by repeat (first | exact Below.refl _ _ | refine below_drewN ?_ _ | refine Below.alloc ?_ (by simp; try omega) _))⟩
  clear hd
  rw [rounds_succ]
  go_wp2
  by_cases h2 : c < 1
  · have hd : decide (c < 1) = true := by simpa using h2
    go_quiet (fail)
    go_wp2
    go_ret
    exact ⟨ret_bool (decide_eq_false (fun k => by unfold Ok at k; omega)).symm, (by repeat (first | exact Below.refl _ _ | refine below_drewN ?_ _ | refine Below.alloc ?_ (by simp; try omega) _))⟩
  have hd : decide (c < 1) = false := by simpa using h2
  go_quiet (fail)
  go_wp2
  ·
    go_ret
    exact ⟨ret_bool (decide_eq_false (fun k => by unfold Ok at k; omega)).symm, (by repeat (first | exact Below.refl _ _ | refine below_drewN ?_ _ | refine Below.alloc ?_ (by simp; try omega) _))⟩
  clear hd
  rw [rounds_succ]
  go_wp2
  by_cases h3 : d < 1
  · have hd : decide (d < 1) = true := by simpa using h3
    go_quiet (fail)
    go_wp2
    go_ret
    exact ⟨ret_bool (decide_eq_false (fun k => by unfold Ok at k; omega)).symm, (by repeat (first | exact Below.refl _ _ | refine below_drewN ?_ _ | refine Below.alloc ?_ (by simp; try omega) _))⟩
  have hd : decide (d < 1) = false := by simpa using h3
  go_quiet (fail)
  go_wp2
  ·
    go_ret
    exact ⟨ret_bool (decide_eq_false (fun k => by unfold Ok at k; omega)).symm, (by repeat (first | exact Below.refl _ _ | refine below_drewN ?_ _ | refine Below.alloc ?_ (by simp; try omega) _))⟩
  clear hd
  rw [rounds_succ]
  go_wp2
  by_cases h4 : e < 1
  · have hd : decide (e < 1) = true := by simpa using h4
    go_quiet (fail)
    go_wp2
    go_ret
    exact ⟨ret_bool (decide_eq_false (fun k => by unfold Ok at k; omega)).symm, (by repeat (first | exact Below.refl _ _ | refine below_drewN ?_ _ | refine Below.alloc ?_ (by simp; try omega) _))⟩
  have hd : decide (e < 1) = false := by simpa using h4
  go_quiet (fail)
  go_wp2
  ·
    go_ret
    exact ⟨ret_bool (decide_eq_false (fun k => by unfold Ok at k; omega)).symm, (by repeat (first | exact Below.refl _ _ | refine below_drewN ?_ _ | refine Below.alloc ?_ (by simp; try omega) _))⟩
  clear hd
  rw [rounds_succ]
  go_wp2
  by_cases h5 : f < 1
  · have hd : decide (f < 1) = true := by simpa using h5
    go_quiet (fail)
    go_wp2
    go_ret
    exact ⟨ret_bool (decide_eq_false (fun k => by unfold Ok at k; omega)).symm, (by repeat (first | exact Below.refl _ _ | refine below_drewN ?_ _ | refine Below.alloc ?_ (by simp; try omega) _))⟩
  have hd : decide (f < 1) = false := by simpa using h5
  go_quiet (fail)
  go_wp2
  ·
    go_ret
    exact ⟨ret_bool (decide_eq_false (fun k => by unfold Ok at k; omega)).symm, (by repeat (first | exact Below.refl _ _ | refine below_drewN ?_ _ | refine Below.alloc ?_ (by simp; try omega) _))⟩
  clear hd
  rw [rounds_succ]
  go_wp2
  by_cases h6 : g < 1
  · have hd : decide (g < 1) = true := by simpa using h6
    go_quiet (fail)
    go_wp2
    go_ret
    exact ⟨ret_bool (decide_eq_false (fun k => by unfold Ok at k; omega)).symm, (by repeat (first | exact Below.refl _ _ | refine below_drewN ?_ _ | refine Below.alloc ?_ (by simp; try omega) _))⟩
  have hd : decide (g < 1) = false := by simpa using h6
  go_quiet (fail)
  go_wp2
  ·
    go_ret
    exact ⟨ret_bool (decide_eq_false (fun k => by unfold Ok at k; omega)).symm, (by repeat (first | exact Below.refl _ _ | refine below_drewN ?_ _ | refine Below.alloc ?_ (by simp; try omega) _))⟩
  clear hd
  rw [rounds_succ]
  go_wp2
  go_ret
  exact ⟨ret_bool (decide_eq_true (by unfold Ok; omega)).symm, (by repeat (first | exact Below.refl _ _ | refine below_drewN ?_ _ | refine Below.alloc ?_ (by simp; try omega) _))⟩

theorem may_any (a b c d e f g : Int) (w : World) : Calls Try.prog 7 #[.agg #[.int .i64 a, .int .i64 b, .int .i64 c, .int .i64 d, .int .i64 e, .int .i64 f, .int .i64 g]] w fun r w' => r = .returned (.bool (decide (Ok a b c d e f g))) ∧ Below w.heap.size w w' := by
  go_enter Try.func7, Try.ntmps7
  go_wp2_with fail
  refine (refmay _ _ _ _ _ _ _ _).mono ?_
  rintro r w1 ⟨rfl, hb⟩
  have hb' := below_alloc hb
  clear hb
  go_wp2
  go_ret
  exact ⟨rfl, hb'⟩
theorem may_yes (a b c d e f g : Int) (h : Ok a b c d e f g) (w : World) : Calls Try.prog 7 #[.agg #[.int .i64 a, .int .i64 b, .int .i64 c, .int .i64 d, .int .i64 e, .int .i64 f, .int .i64 g]] w fun r w' => r = .returned (.bool true) ∧ Below w.heap.size w w' := by
  have k := may_any a b c d e f g w; rw [decide_eq_true h] at k; exact k
theorem may_no (a b c d e f g : Int) (h : ¬ Ok a b c d e f g) (w : World) : Calls Try.prog 7 #[.agg #[.int .i64 a, .int .i64 b, .int .i64 c, .int .i64 d, .int .i64 e, .int .i64 f, .int .i64 g]] w fun r w' => r = .returned (.bool false) ∧ Below w.heap.size w w' := by
  have k := may_any a b c d e f g w; rw [decide_eq_false h] at k; exact k
end Go.Proofs.Ytgdbjkkhmamdmaa
