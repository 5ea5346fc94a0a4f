/- The functions of package moesi and of the reference, walked. -/
import Derived.Test.YtijhndmmljicmaaDoorK
import Derived.WalkKit
import Derived.WalkSpells
import Derived.ProofKit
import Derived.Outline
import Derived.Handy
import Derived.RowKit3
import Derived.BigQuiet
import Derived.Deep.QuietTactic
import Derived.Deep.RegionHeld3
import Derived.IntWalk
namespace Go.Proofs.YtijhndmmljicmaaDoor
open Go.RowKit
set_option linter.unusedVariables false
set_option maxRecDepth 100000

def isB (s : Int) : Bool := decide (0 ≤ s ∧ s ≤ 4)
def vaB (s : Int) : Bool := decide (1 ≤ s ∧ s ≤ 4)
def stB (s : Int) : Bool := decide (s = 2 ∨ s = 4)
def diB (s : Int) : Bool := decide (s = 3 ∨ s = 4)
def owB (s : Int) : Bool := decide (2 ≤ s ∧ s ≤ 4)
theorem five {s : Int} (h : 0 ≤ s ∧ s ≤ 4) : s = 0 ∨ s = 1 ∨ s = 2 ∨ s = 3 ∨ s = 4 := by omega

theorem is_any (s : Int) (w : World) : Calls Tryd.prog 28 #[.int .i64 s] w fun r w' => r = .returned (.bool (isB s)) ∧ w = w' := by
  by_cases h : 0 ≤ s
  · go_enter Tryd.func28, Tryd.ntmps28
    go_wp2
    go_ret
    exact ⟨ret_bool (by unfold isB; simp [h]), rfl⟩
  · go_enter Tryd.func28, Tryd.ntmps28
    go_wp2
    go_ret
    exact ⟨ret_bool (by unfold isB; simp; omega), rfl⟩
theorem is_v (s : Int) (v : Bool) (h : isB s = v) (w : World) : Calls Tryd.prog 28 #[.int .i64 s] w fun r w' => r = .returned (.bool v) ∧ w = w' := by
  subst h; exact is_any s w

theorem of_0 (w : World) (T : Tab w) : Calls Tryd.prog 30 #[.int .i64 0] w fun r w' => r = .returned (.agg #[.string ⟨#[73]⟩, .bool false, .bool false, .bool false, .bool false, .int .i64 0, .int .i64 0]) ∧ Below w.heap.size w w' := by
  obtain ⟨c0, c1, c2, c3, c4, c5, c6⟩ := T.row0
  have hp := T.1
  clear T
  go_enter Tryd.func30, Tryd.ntmps30
  go_wp2_with (go_at_call 28; refine (is_v 0 true (by decide) _).mono ?_; rintro r w' ⟨rfl, rfl⟩)
  exact bodyPost_ret (v := .agg #[.string ⟨#[73]⟩, .bool false, .bool false, .bool false, .bool false, .int .i64 0, .int .i64 0]) (by simp [results, Tryd.results30, go_sem]) rfl ⟨rfl, by repeat (first | exact Below.refl _ _ | refine Below.setCell ?_ (by simp) _ | refine Below.alloc ?_ (by simp) _)⟩

theorem of_1 (w : World) (T : Tab w) : Calls Tryd.prog 30 #[.int .i64 1] w fun r w' => r = .returned (.agg #[.string ⟨#[83]⟩, .bool true, .bool false, .bool false, .bool false, .int .i64 0, .int .i64 1]) ∧ Below w.heap.size w w' := by
  obtain ⟨c0, c1, c2, c3, c4, c5, c6⟩ := T.row1
  have hp := T.1
  clear T
  go_enter Tryd.func30, Tryd.ntmps30
  go_wp2_with (go_at_call 28; refine (is_v 1 true (by decide) _).mono ?_; rintro r w' ⟨rfl, rfl⟩)
  exact bodyPost_ret (v := .agg #[.string ⟨#[83]⟩, .bool true, .bool false, .bool false, .bool false, .int .i64 0, .int .i64 1]) (by simp [results, Tryd.results30, go_sem]) rfl ⟨rfl, by repeat (first | exact Below.refl _ _ | refine Below.setCell ?_ (by simp) _ | refine Below.alloc ?_ (by simp) _)⟩

theorem of_2 (w : World) (T : Tab w) : Calls Tryd.prog 30 #[.int .i64 2] w fun r w' => r = .returned (.agg #[.string ⟨#[69]⟩, .bool true, .bool true, .bool false, .bool true, .int .i64 4, .int .i64 1]) ∧ Below w.heap.size w w' := by
  obtain ⟨c0, c1, c2, c3, c4, c5, c6⟩ := T.row2
  have hp := T.1
  clear T
  go_enter Tryd.func30, Tryd.ntmps30
  go_wp2_with (go_at_call 28; refine (is_v 2 true (by decide) _).mono ?_; rintro r w' ⟨rfl, rfl⟩)
  exact bodyPost_ret (v := .agg #[.string ⟨#[69]⟩, .bool true, .bool true, .bool false, .bool true, .int .i64 4, .int .i64 1]) (by simp [results, Tryd.results30, go_sem]) rfl ⟨rfl, by repeat (first | exact Below.refl _ _ | refine Below.setCell ?_ (by simp) _ | refine Below.alloc ?_ (by simp) _)⟩

theorem of_3 (w : World) (T : Tab w) : Calls Tryd.prog 30 #[.int .i64 3] w fun r w' => r = .returned (.agg #[.string ⟨#[79]⟩, .bool true, .bool false, .bool true, .bool true, .int .i64 0, .int .i64 3]) ∧ Below w.heap.size w w' := by
  obtain ⟨c0, c1, c2, c3, c4, c5, c6⟩ := T.row3
  have hp := T.1
  clear T
  go_enter Tryd.func30, Tryd.ntmps30
  go_wp2_with (go_at_call 28; refine (is_v 3 true (by decide) _).mono ?_; rintro r w' ⟨rfl, rfl⟩)
  exact bodyPost_ret (v := .agg #[.string ⟨#[79]⟩, .bool true, .bool false, .bool true, .bool true, .int .i64 0, .int .i64 3]) (by simp [results, Tryd.results30, go_sem]) rfl ⟨rfl, by repeat (first | exact Below.refl _ _ | refine Below.setCell ?_ (by simp) _ | refine Below.alloc ?_ (by simp) _)⟩

theorem of_4 (w : World) (T : Tab w) : Calls Tryd.prog 30 #[.int .i64 4] w fun r w' => r = .returned (.agg #[.string ⟨#[77]⟩, .bool true, .bool true, .bool true, .bool true, .int .i64 4, .int .i64 3]) ∧ Below w.heap.size w w' := by
  obtain ⟨c0, c1, c2, c3, c4, c5, c6⟩ := T.row4
  have hp := T.1
  clear T
  go_enter Tryd.func30, Tryd.ntmps30
  go_wp2_with (go_at_call 28; refine (is_v 4 true (by decide) _).mono ?_; rintro r w' ⟨rfl, rfl⟩)
  exact bodyPost_ret (v := .agg #[.string ⟨#[77]⟩, .bool true, .bool true, .bool true, .bool true, .int .i64 4, .int .i64 3]) (by simp [results, Tryd.results30, go_sem]) rfl ⟨rfl, by repeat (first | exact Below.refl _ _ | refine Below.setCell ?_ (by simp) _ | refine Below.alloc ?_ (by simp) _)⟩

theorem of_out (s : Int) (h : isB s = false) (w : World) : Calls Tryd.prog 30 #[.int .i64 s] w fun r w' => r = .returned (.agg #[.string ⟨#[]⟩, .bool false, .bool false, .bool false, .bool false, .int .i64 0, .int .i64 0]) ∧ Below w.heap.size w w' := by
  have H := hide h
  clear h
  go_enter Tryd.func30, Tryd.ntmps30
  go_wp2_with (go_at_call 28; refine (is_v s false H.out _).mono ?_; rintro r w' ⟨rfl, rfl⟩)
  exact bodyPost_ret (v := .agg #[.string ⟨#[]⟩, .bool false, .bool false, .bool false, .bool false, .int .i64 0, .int .i64 0]) (by simp [results, Tryd.results30, go_sem]) rfl ⟨rfl, by repeat (first | exact Below.refl _ _ | refine Below.setCell ?_ (by simp) _ | refine Below.alloc ?_ (by simp) _)⟩
end Go.Proofs.YtijhndmmljicmaaDoor
