/- The table's contracts carried over. -/
import Derived.Test.YtfikiophfphmbaaK
import Derived.WalkKit
import Derived.WalkSpells
import Derived.ProofKit
import Derived.Outline
import Derived.Handy
import Derived.RowKit3
import Derived.BigQuiet
import Derived.Deep.QuietTactic
import Derived.Deep.RegionHeld3
import Derived.Deep.Draws
import Derived.Deep.RegionLaw
import Derived.RegionTactic
import Derived.BigRegion
import Derived.IntWalk
import Derived.LoopTactic
import Derived.OwnWalk
import Derived.Laws.AppendOwn
import Derived.Laws.OwnMore
import Derived.Laws.MakeOwn
import Derived.Laws.Pointers
import Derived.Maps.AppendAt
import Derived.Deep.AppendLies
import Derived.Below
namespace Go.Proofs.Ytfikiophfphmbaa
open Go.RowKit
set_option linter.unusedVariables false
set_option maxRecDepth 100000

theorem may_any (n : Int) (w : World) : Calls Try.prog 25 #[.int .i64 n] w fun r w' => r = .returned (.bool (decide (1 ≤ n ∧ n ≤ 16))) ∧ w = w' := by
  by_cases h : 1 ≤ n
  · go_enter Try.func25, Try.ntmps25
    go_wp2
    go_ret
    exact ⟨ret_bool (by simp [h]), rfl⟩
  · go_enter Try.func25, Try.ntmps25
    go_wp2
    go_ret
    exact ⟨ret_bool (by simp; omega), rfl⟩

theorem may_v (n : Int) (v : Bool) (h : decide (1 ≤ n ∧ n ≤ 16) = v) (w : World) : Calls Try.prog 25 #[.int .i64 n] w fun r w' => r = .returned (.bool v) ∧ w = w' := by subst h; exact may_any n w

theorem owns_any (n : Int) (w : World) : Calls Try.prog 27 #[.int .i64 n] w fun r w' => r = .returned (.bool (decide (0 ≤ n ∧ n ≤ 4))) ∧ w = w' := by
  by_cases h : 0 ≤ n
  · go_enter Try.func27, Try.ntmps27
    go_wp2
    go_ret
    exact ⟨ret_bool (by simp [h]), rfl⟩
  · go_enter Try.func27, Try.ntmps27
    go_wp2
    go_ret
    exact ⟨ret_bool (by simp; omega), rfl⟩

theorem owns_v (n : Int) (v : Bool) (h : decide (0 ≤ n ∧ n ≤ 4) = v) (w : World) : Calls Try.prog 27 #[.int .i64 n] w fun r w' => r = .returned (.bool v) ∧ w = w' := by subst h; exact owns_any n w

theorem groups_any (n : Int) (h1 : 1 ≤ n) (h2 : n ≤ 16) (w : World) : Calls Try.prog 45 #[.int .i64 n] w fun r w' => r = .returned (.int .i64 ((n + 3) / 4)) ∧ w = w' := by
  go_enter Try.func45, Try.ntmps45
  go_wp2
  go_ret
  exact ⟨ret_int (by omega), rfl⟩

theorem table_may (world owner : Int) (w : World) : Calls Try.prog 23 #[.int .i64 world, .int .i64 owner] w fun r w' => r = .returned (.bool (decide ((0 ≤ world ∧ world ≤ 3) ∧ (0 ≤ owner ∧ owner ≤ 4) ∧ (world = 0 ∨ owner = world ∨ owner = 4)))) ∧ w = w' := by
  by_cases h0 : 0 ≤ world ∧ world ≤ 3
  · obtain ⟨a, c⟩ := h0
    by_cases h1 : 0 ≤ owner ∧ owner ≤ 4
    · have H1 := hide (decide_eq_true h1)
      replace h1 := hide h1
      by_cases e0 : world = 0
      · subst e0
        go_enter Try.func23, Try.ntmps23
        go_wp2_with (go_at_call 27; refine (owns_v owner true H1.out _).mono ?_; rintro r w1 ⟨rfl, rfl⟩)
        go_ret
        exact ⟨ret_bool (by have := h1.out; simp [this.1, this.2]), rfl⟩
      · by_cases e1 : owner = world
        · subst e1
          have f0 : (owner == 0) = false := by simpa using e0
          replace e0 := hide e0
          go_enter Try.func23, Try.ntmps23
          go_wp2_with (go_at_call 27; refine (owns_v owner true H1.out _).mono ?_; rintro r w1 ⟨rfl, rfl⟩)
          go_ret
          exact ⟨ret_bool (by have := h1.out; simp [this.1, this.2, c]), rfl⟩
        · have f0 : (world == 0) = false := by simpa using e0
          have f1 : (owner == world) = false := by simpa using e1
          by_cases e2 : owner = 4
          · subst e2
            replace e0 := hide e0
            replace e1 := hide e1
            go_enter Try.func23, Try.ntmps23
            go_wp2_with (go_at_call 27; refine (owns_v 4 true H1.out _).mono ?_; rintro r w1 ⟨rfl, rfl⟩)
            go_ret
            exact ⟨ret_bool (by simp [a, c]), rfl⟩
          · have f2 : (owner == 4) = false := by simpa using e2
            replace e0 := hide e0
            replace e1 := hide e1
            replace e2 := hide e2
            go_enter Try.func23, Try.ntmps23
            go_wp2_with (go_at_call 27; refine (owns_v owner true H1.out _).mono ?_; rintro r w1 ⟨rfl, rfl⟩)
            go_ret
            exact ⟨ret_bool (by have := e0.out; have := e1.out; have := e2.out; symm; apply decide_eq_false; omega), rfl⟩
    · have H1 := hide (decide_eq_false h1)
      replace h1 := hide h1
      go_enter Try.func23, Try.ntmps23
      go_wp2_with (go_at_call 27; refine (owns_v owner false H1.out _).mono ?_; rintro r w1 ⟨rfl, rfl⟩)
      go_ret
      exact ⟨ret_bool (by have := h1.out; symm; apply decide_eq_false; omega), rfl⟩
  · have H0 := hide h0
    by_cases a : world < 0
    · clear h0
      go_enter Try.func23, Try.ntmps23
      go_wp2
      go_ret
      exact ⟨ret_bool (by symm; apply decide_eq_false; omega), rfl⟩
    · have c : 3 < world := by omega
      clear h0
      go_enter Try.func23, Try.ntmps23
      go_wp2
      go_ret
      exact ⟨ret_bool (by first | (symm; apply decide_eq_false; omega) | (simp; omega)), rfl⟩


theorem first_in (g : Nat) (h : g < 16) (w : World) : Calls Try.prog 44 #[.int .i64 g] w fun r w' => r = .returned (.tuple #[.int .i64 (g / 4 : Nat), .int .i64 0]) ∧ w = w' := by
  go_enter Try.func44, Try.ntmps44
  go_wp2
  go_ret2
  refine ⟨?_, rfl⟩
  simp [go_sem]


theorem groups_v (n mn : Nat) (h1 : 1 ≤ n) (h2 : n ≤ 16) (hm : (n + 3) / 4 = mn) (w : World) : Calls Try.prog 45 #[.int .i64 n] w fun r w' => r = .returned (.int .i64 (mn : Int)) ∧ w = w' := by
  refine (groups_any n (by omega) (by omega) w).mono ?_
  rintro r w1 ⟨rfl, h⟩
  exact ⟨ret_int (by omega), h⟩
theorem may_n (n : Nat) (h1 : 1 ≤ n) (h2 : n ≤ 16) (w : World) : Calls Try.prog 25 #[.int .i64 n] w fun r w' => r = .returned (.bool true) ∧ w = w' := may_v n true (by simp; omega) w


theorem next_plain (n g q mn : Nat) (x : Int) (hx0 : 0 ≤ x) (hx : x ≤ 4) (h1 : 1 ≤ n) (hn : n ≤ 16) (hg : g < n) (hq : g / 4 = q) (hm : (n + 3) / 4 = mn) (w : World) :
    Calls Try.prog 35 #[.int .i64 n, .int .i64 g, .int .i64 q, .int .i64 (4 * x)] w fun r w' => r = .returned (.tuple #[.int .i64 0, .agg #[.int .i64 x, .bool false], .bool true, .int .i64 0]) ∧ Below w.heap.size w w' := by
  have f0 : (4 * x == 4 * ((mn : Int) + 4 * q) + 1) = false := by simp; omega
  have HX := hide (show decide (0 ≤ x ∧ x ≤ 4) = true by simp; omega)
  have f3 : 4 * x / 4 = x := by omega
  have f4 : (4 * x) % 4 = 0 := by omega
  have f1 : (g : Int) / 4 = q := by omega
  have f2 : ¬ (n : Int) ≤ g := by omega
  have HM := hide hm
  have hq4 : q ≤ 4 := by omega
  have hm4 : mn ≤ 4 := by omega
  clear hm hq
  go_enter Try.func35, Try.ntmps35
  go_wp2_with fail
  refine (may_n n h1 hn _).mono ?_
  rintro r w1 ⟨rfl, rfl⟩
  go_wp2_with fail
  refine (groups_v n mn h1 hn HM.out _).mono ?_
  rintro r w1 ⟨rfl, rfl⟩
  go_wp2_with fail
  refine (owns_v x true HX.out _).mono ?_
  rintro r w1 ⟨rfl, rfl⟩
  go_wp2
  go_region
  go_wp2
  exact bodyPost_ret (v := .tuple #[.int .i64 0, .agg #[.int .i64 x, .bool false], .bool true, .int .i64 0]) (by simp [results, Try.results35, go_sem] <;> omega) rfl ⟨rfl, by repeat (first | exact Below.refl _ _ | refine below_drew0 ?_ | refine Below.setCell ?_ (by simp) _ | refine Below.alloc ?_ (by simp) _)⟩

theorem next_part (n g q mn : Nat)  (h1 : 1 ≤ n) (hn : n ≤ 16) (hg : g < n) (hq : g / 4 = q) (hm : (n + 3) / 4 = mn) (w : World) :
    Calls Try.prog 35 #[.int .i64 n, .int .i64 g, .int .i64 q, .int .i64 (4 * ((mn : Int) + 4 * q) + 1)] w fun r w' => r = .returned (.tuple #[.int .i64 ((mn : Int) + g), .agg #[.int .i64 0, .bool false], .bool false, .int .i64 0]) ∧ Below w.heap.size w w' := by

  have f1 : (g : Int) / 4 = q := by omega
  have f2 : ¬ (n : Int) ≤ g := by omega
  have HM := hide hm
  have hq4 : q ≤ 4 := by omega
  have hm4 : mn ≤ 4 := by omega
  clear hm hq
  go_enter Try.func35, Try.ntmps35
  go_wp2_with fail
  refine (may_n n h1 hn _).mono ?_
  rintro r w1 ⟨rfl, rfl⟩
  go_wp2_with fail
  refine (groups_v n mn h1 hn HM.out _).mono ?_
  rintro r w1 ⟨rfl, rfl⟩
  go_wp2
  exact bodyPost_ret (v := .tuple #[.int .i64 ((mn : Int) + g), .agg #[.int .i64 0, .bool false], .bool false, .int .i64 0]) (by simp [results, Try.results35, go_sem] <;> omega) rfl ⟨rfl, by repeat (first | exact Below.refl _ _ | refine below_drew0 ?_ | refine Below.setCell ?_ (by simp) _ | refine Below.alloc ?_ (by simp) _)⟩

theorem next_own (n g q mn : Nat) (x : Int) (hx0 : 0 ≤ x) (hx : x ≤ 4) (h1 : 1 ≤ n) (hn : n ≤ 16) (hg : g < n) (hq : g / 4 = q) (hm : (n + 3) / 4 = mn) (w : World) :
    Calls Try.prog 35 #[.int .i64 n, .int .i64 g, .int .i64 ((mn : Int) + g), .int .i64 x] w fun r w' => r = .returned (.tuple #[.int .i64 0, .agg #[.int .i64 x, .bool false], .bool true, .int .i64 0]) ∧ Below w.heap.size w w' := by
  have f0 : ((mn : Int) + g == q) = false := by simp; omega
  have f5 : (mn + g == q) = false := by simp; omega
  have HX := hide (show decide (0 ≤ x ∧ x ≤ 4) = true by simp; omega)
  have f1 : (g : Int) / 4 = q := by omega
  have f2 : ¬ (n : Int) ≤ g := by omega
  have HM := hide hm
  have hq4 : q ≤ 4 := by omega
  have hm4 : mn ≤ 4 := by omega
  clear hm hq
  go_enter Try.func35, Try.ntmps35
  go_wp2_with fail
  refine (may_n n h1 hn _).mono ?_
  rintro r w1 ⟨rfl, rfl⟩
  go_wp2_with fail
  refine (groups_v n mn h1 hn HM.out _).mono ?_
  rintro r w1 ⟨rfl, rfl⟩
  go_wp2_with fail
  refine (owns_v x true HX.out _).mono ?_
  rintro r w1 ⟨rfl, rfl⟩
  go_wp2
  go_region
  go_wp2
  exact bodyPost_ret (v := .tuple #[.int .i64 0, .agg #[.int .i64 x, .bool false], .bool true, .int .i64 0]) (by simp [results, Try.results35, go_sem] <;> omega) rfl ⟨rfl, by repeat (first | exact Below.refl _ _ | refine below_drew0 ?_ | refine Below.setCell ?_ (by simp) _ | refine Below.alloc ?_ (by simp) _)⟩

theorem next_lock (n g q mn : Nat) (x : Int) (hx0 : 0 ≤ x) (hx : x ≤ 4) (h1 : 1 ≤ n) (hn : n ≤ 16) (hg : g < n) (hq : g / 4 = q) (hm : (n + 3) / 4 = mn) (w : World) :
    Calls Try.prog 35 #[.int .i64 n, .int .i64 g, .int .i64 ((mn : Int) + g), .int .i64 (x + 8)] w fun r w' => r = .returned (.tuple #[.int .i64 0, .agg #[.int .i64 x, .bool true], .bool true, .int .i64 0]) ∧ Below w.heap.size w w' := by
  have f0 : ((mn : Int) + g == q) = false := by simp; omega
  have f5 : (mn + g == q) = false := by simp; omega
  have HX := hide (show decide (0 ≤ x ∧ x ≤ 4) = true by simp; omega)
  have f1 : (g : Int) / 4 = q := by omega
  have f2 : ¬ (n : Int) ≤ g := by omega
  have HM := hide hm
  have hq4 : q ≤ 4 := by omega
  have hm4 : mn ≤ 4 := by omega
  clear hm hq
  go_enter Try.func35, Try.ntmps35
  go_wp2_with fail
  refine (may_n n h1 hn _).mono ?_
  rintro r w1 ⟨rfl, rfl⟩
  go_wp2_with fail
  refine (groups_v n mn h1 hn HM.out _).mono ?_
  rintro r w1 ⟨rfl, rfl⟩
  go_wp2_with fail
  refine (owns_v x true HX.out _).mono ?_
  rintro r w1 ⟨rfl, rfl⟩
  go_wp2
  go_region
  go_wp2
  exact bodyPost_ret (v := .tuple #[.int .i64 0, .agg #[.int .i64 x, .bool true], .bool true, .int .i64 0]) (by simp [results, Try.results35, go_sem] <;> omega) rfl ⟨rfl, by repeat (first | exact Below.refl _ _ | refine below_drew0 ?_ | refine Below.setCell ?_ (by simp) _ | refine Below.alloc ?_ (by simp) _)⟩
end Go.Proofs.Ytfikiophfphmbaa
