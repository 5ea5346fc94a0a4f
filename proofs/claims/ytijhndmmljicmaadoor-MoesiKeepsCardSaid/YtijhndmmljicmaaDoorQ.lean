/- The reference's Load, Store, Dirty, Owner, Probed, walked. -/
import Derived.Test.YtijhndmmljicmaaDoorR
import Derived.Test.YtijhndmmljicmaaDoorC
import Derived.WalkKit
import Derived.WalkSpells
import Derived.ProofKit
import Derived.Outline
import Derived.Handy
import Derived.RowKit3
import Derived.BigQuiet
import Derived.Deep.QuietTactic
import Derived.Deep.RegionHeld3
import Derived.IntWalk
namespace Go.Proofs.YtijhndmmljicmaaDoor
open Go.RowKit
set_option linter.unusedVariables false
set_option maxRecDepth 100000

theorem in_SEOM_0 (w : World) : Calls Tryd.prog 29 #[.int .i64 0, .string ⟨#[83, 69, 79, 77]⟩] w fun r w' => r = .returned (.bool false) ∧ w = w' := by
  have e0 : (([73] : List UInt8) == (((⟨#[83, 69, 79, 77]⟩ : ByteArray)).extract 0 1).toList) = false := by kernel_rfl
  have e1 : (([73] : List UInt8) == (((⟨#[83, 69, 79, 77]⟩ : ByteArray)).extract 1 2).toList) = false := by kernel_rfl
  have e2 : (([73] : List UInt8) == (((⟨#[83, 69, 79, 77]⟩ : ByteArray)).extract 2 3).toList) = false := by kernel_rfl
  have e3 : (([73] : List UInt8) == (((⟨#[83, 69, 79, 77]⟩ : ByteArray)).extract 3 4).toList) = false := by kernel_rfl
  go_enter Tryd.func29, Tryd.ntmps29
  go_wp2_with fail
  refine (letter_0 w).mono ?_
  rintro r w1 ⟨rfl, rfl⟩
  go_wp2
  refine wp_loop_rounds 5 ?_
  repeat any_goals (rw [rounds_succ]; go_wp2)
  go_ret
  exact ⟨rfl, rfl⟩

theorem in_SEOM_1 (w : World) : Calls Tryd.prog 29 #[.int .i64 1, .string ⟨#[83, 69, 79, 77]⟩] w fun r w' => r = .returned (.bool true) ∧ w = w' := by
  have e0 : (([83] : List UInt8) == (((⟨#[83, 69, 79, 77]⟩ : ByteArray)).extract 0 1).toList) = true := by kernel_rfl
  have e1 : (([83] : List UInt8) == (((⟨#[83, 69, 79, 77]⟩ : ByteArray)).extract 1 2).toList) = false := by kernel_rfl
  have e2 : (([83] : List UInt8) == (((⟨#[83, 69, 79, 77]⟩ : ByteArray)).extract 2 3).toList) = false := by kernel_rfl
  have e3 : (([83] : List UInt8) == (((⟨#[83, 69, 79, 77]⟩ : ByteArray)).extract 3 4).toList) = false := by kernel_rfl
  go_enter Tryd.func29, Tryd.ntmps29
  go_wp2_with fail
  refine (letter_1 w).mono ?_
  rintro r w1 ⟨rfl, rfl⟩
  go_wp2
  refine wp_loop_rounds 5 ?_
  repeat any_goals (rw [rounds_succ]; go_wp2)
  go_ret
  exact ⟨rfl, rfl⟩

theorem in_SEOM_2 (w : World) : Calls Tryd.prog 29 #[.int .i64 2, .string ⟨#[83, 69, 79, 77]⟩] w fun r w' => r = .returned (.bool true) ∧ w = w' := by
  have e0 : (([69] : List UInt8) == (((⟨#[83, 69, 79, 77]⟩ : ByteArray)).extract 0 1).toList) = false := by kernel_rfl
  have e1 : (([69] : List UInt8) == (((⟨#[83, 69, 79, 77]⟩ : ByteArray)).extract 1 2).toList) = true := by kernel_rfl
  have e2 : (([69] : List UInt8) == (((⟨#[83, 69, 79, 77]⟩ : ByteArray)).extract 2 3).toList) = false := by kernel_rfl
  have e3 : (([69] : List UInt8) == (((⟨#[83, 69, 79, 77]⟩ : ByteArray)).extract 3 4).toList) = false := by kernel_rfl
  go_enter Tryd.func29, Tryd.ntmps29
  go_wp2_with fail
  refine (letter_2 w).mono ?_
  rintro r w1 ⟨rfl, rfl⟩
  go_wp2
  refine wp_loop_rounds 5 ?_
  repeat any_goals (rw [rounds_succ]; go_wp2)
  go_ret
  exact ⟨rfl, rfl⟩

theorem in_SEOM_3 (w : World) : Calls Tryd.prog 29 #[.int .i64 3, .string ⟨#[83, 69, 79, 77]⟩] w fun r w' => r = .returned (.bool true) ∧ w = w' := by
  have e0 : (([79] : List UInt8) == (((⟨#[83, 69, 79, 77]⟩ : ByteArray)).extract 0 1).toList) = false := by kernel_rfl
  have e1 : (([79] : List UInt8) == (((⟨#[83, 69, 79, 77]⟩ : ByteArray)).extract 1 2).toList) = false := by kernel_rfl
  have e2 : (([79] : List UInt8) == (((⟨#[83, 69, 79, 77]⟩ : ByteArray)).extract 2 3).toList) = true := by kernel_rfl
  have e3 : (([79] : List UInt8) == (((⟨#[83, 69, 79, 77]⟩ : ByteArray)).extract 3 4).toList) = false := by kernel_rfl
  go_enter Tryd.func29, Tryd.ntmps29
  go_wp2_with fail
  refine (letter_3 w).mono ?_
  rintro r w1 ⟨rfl, rfl⟩
  go_wp2
  refine wp_loop_rounds 5 ?_
  repeat any_goals (rw [rounds_succ]; go_wp2)
  go_ret
  exact ⟨rfl, rfl⟩

theorem in_SEOM_4 (w : World) : Calls Tryd.prog 29 #[.int .i64 4, .string ⟨#[83, 69, 79, 77]⟩] w fun r w' => r = .returned (.bool true) ∧ w = w' := by
  have e0 : (([77] : List UInt8) == (((⟨#[83, 69, 79, 77]⟩ : ByteArray)).extract 0 1).toList) = false := by kernel_rfl
  have e1 : (([77] : List UInt8) == (((⟨#[83, 69, 79, 77]⟩ : ByteArray)).extract 1 2).toList) = false := by kernel_rfl
  have e2 : (([77] : List UInt8) == (((⟨#[83, 69, 79, 77]⟩ : ByteArray)).extract 2 3).toList) = false := by kernel_rfl
  have e3 : (([77] : List UInt8) == (((⟨#[83, 69, 79, 77]⟩ : ByteArray)).extract 3 4).toList) = true := by kernel_rfl
  go_enter Tryd.func29, Tryd.ntmps29
  go_wp2_with fail
  refine (letter_4 w).mono ?_
  rintro r w1 ⟨rfl, rfl⟩
  go_wp2
  refine wp_loop_rounds 5 ?_
  repeat any_goals (rw [rounds_succ]; go_wp2)
  go_ret
  exact ⟨rfl, rfl⟩

theorem in_SEOM_out (s : Int) (h : isB s = false) (w : World) : Calls Tryd.prog 29 #[.int .i64 s, .string ⟨#[83, 69, 79, 77]⟩] w fun r w' => r = .returned (.bool false) ∧ w = w' := by
  have H := hide h
  clear h
  have e0 : (([] : List UInt8) == (((⟨#[83, 69, 79, 77]⟩ : ByteArray)).extract 0 1).toList) = false := by kernel_rfl
  have e1 : (([] : List UInt8) == (((⟨#[83, 69, 79, 77]⟩ : ByteArray)).extract 1 2).toList) = false := by kernel_rfl
  have e2 : (([] : List UInt8) == (((⟨#[83, 69, 79, 77]⟩ : ByteArray)).extract 2 3).toList) = false := by kernel_rfl
  have e3 : (([] : List UInt8) == (((⟨#[83, 69, 79, 77]⟩ : ByteArray)).extract 3 4).toList) = false := by kernel_rfl
  go_enter Tryd.func29, Tryd.ntmps29
  go_wp2_with fail
  refine (letter_out s H.out w).mono ?_
  rintro r w1 ⟨rfl, rfl⟩
  go_wp2
  refine wp_loop_rounds 5 ?_
  repeat any_goals (rw [rounds_succ]; go_wp2)
  go_ret
  exact ⟨rfl, rfl⟩
theorem rload_any (s : Int) (w : World) : Calls Tryd.prog 11 #[.int .i64 s] w fun r w' => r = .returned (.bool (vaB s)) ∧ w = w' := by
  by_cases h : 0 ≤ s ∧ s ≤ 4
  · rcases five h with rfl | rfl | rfl | rfl | rfl
    · go_enter Tryd.func11, Tryd.ntmps11
      go_wp2_with fail
      refine (in_SEOM_0 w).mono ?_
      rintro r w1 ⟨rfl, rfl⟩
      go_wp2
      go_ret
      exact ⟨ret_bool (by decide), rfl⟩
    · go_enter Tryd.func11, Tryd.ntmps11
      go_wp2_with fail
      refine (in_SEOM_1 w).mono ?_
      rintro r w1 ⟨rfl, rfl⟩
      go_wp2
      go_ret
      exact ⟨ret_bool (by decide), rfl⟩
    · go_enter Tryd.func11, Tryd.ntmps11
      go_wp2_with fail
      refine (in_SEOM_2 w).mono ?_
      rintro r w1 ⟨rfl, rfl⟩
      go_wp2
      go_ret
      exact ⟨ret_bool (by decide), rfl⟩
    · go_enter Tryd.func11, Tryd.ntmps11
      go_wp2_with fail
      refine (in_SEOM_3 w).mono ?_
      rintro r w1 ⟨rfl, rfl⟩
      go_wp2
      go_ret
      exact ⟨ret_bool (by decide), rfl⟩
    · go_enter Tryd.func11, Tryd.ntmps11
      go_wp2_with fail
      refine (in_SEOM_4 w).mono ?_
      rintro r w1 ⟨rfl, rfl⟩
      go_wp2
      go_ret
      exact ⟨ret_bool (by decide), rfl⟩
  · have hi : isB s = false := by unfold isB; simpa using h
    have H := hide hi
    clear hi h
    go_enter Tryd.func11, Tryd.ntmps11
    go_wp2_with fail
    refine (in_SEOM_out s H.out w).mono ?_
    rintro r w1 ⟨rfl, rfl⟩
    go_wp2
    go_ret
    exact ⟨ret_bool (by have := out_of H.out; unfold vaB; simp; omega), rfl⟩
theorem rload_v (s : Int) (v : Bool) (h : vaB s = v) (w : World) : Calls Tryd.prog 11 #[.int .i64 s] w fun r w' => r = .returned (.bool v) ∧ w = w' := by
  subst h; exact rload_any s w

theorem in_EM_0 (w : World) : Calls Tryd.prog 29 #[.int .i64 0, .string ⟨#[69, 77]⟩] w fun r w' => r = .returned (.bool false) ∧ w = w' := by
  have e0 : (([73] : List UInt8) == (((⟨#[69, 77]⟩ : ByteArray)).extract 0 1).toList) = false := by kernel_rfl
  have e1 : (([73] : List UInt8) == (((⟨#[69, 77]⟩ : ByteArray)).extract 1 2).toList) = false := by kernel_rfl
  go_enter Tryd.func29, Tryd.ntmps29
  go_wp2_with fail
  refine (letter_0 w).mono ?_
  rintro r w1 ⟨rfl, rfl⟩
  go_wp2
  refine wp_loop_rounds 3 ?_
  repeat any_goals (rw [rounds_succ]; go_wp2)
  go_ret
  exact ⟨rfl, rfl⟩

theorem in_EM_1 (w : World) : Calls Tryd.prog 29 #[.int .i64 1, .string ⟨#[69, 77]⟩] w fun r w' => r = .returned (.bool false) ∧ w = w' := by
  have e0 : (([83] : List UInt8) == (((⟨#[69, 77]⟩ : ByteArray)).extract 0 1).toList) = false := by kernel_rfl
  have e1 : (([83] : List UInt8) == (((⟨#[69, 77]⟩ : ByteArray)).extract 1 2).toList) = false := by kernel_rfl
  go_enter Tryd.func29, Tryd.ntmps29
  go_wp2_with fail
  refine (letter_1 w).mono ?_
  rintro r w1 ⟨rfl, rfl⟩
  go_wp2
  refine wp_loop_rounds 3 ?_
  repeat any_goals (rw [rounds_succ]; go_wp2)
  go_ret
  exact ⟨rfl, rfl⟩

theorem in_EM_2 (w : World) : Calls Tryd.prog 29 #[.int .i64 2, .string ⟨#[69, 77]⟩] w fun r w' => r = .returned (.bool true) ∧ w = w' := by
  have e0 : (([69] : List UInt8) == (((⟨#[69, 77]⟩ : ByteArray)).extract 0 1).toList) = true := by kernel_rfl
  have e1 : (([69] : List UInt8) == (((⟨#[69, 77]⟩ : ByteArray)).extract 1 2).toList) = false := by kernel_rfl
  go_enter Tryd.func29, Tryd.ntmps29
  go_wp2_with fail
  refine (letter_2 w).mono ?_
  rintro r w1 ⟨rfl, rfl⟩
  go_wp2
  refine wp_loop_rounds 3 ?_
  repeat any_goals (rw [rounds_succ]; go_wp2)
  go_ret
  exact ⟨rfl, rfl⟩

theorem in_EM_3 (w : World) : Calls Tryd.prog 29 #[.int .i64 3, .string ⟨#[69, 77]⟩] w fun r w' => r = .returned (.bool false) ∧ w = w' := by
  have e0 : (([79] : List UInt8) == (((⟨#[69, 77]⟩ : ByteArray)).extract 0 1).toList) = false := by kernel_rfl
  have e1 : (([79] : List UInt8) == (((⟨#[69, 77]⟩ : ByteArray)).extract 1 2).toList) = false := by kernel_rfl
  go_enter Tryd.func29, Tryd.ntmps29
  go_wp2_with fail
  refine (letter_3 w).mono ?_
  rintro r w1 ⟨rfl, rfl⟩
  go_wp2
  refine wp_loop_rounds 3 ?_
  repeat any_goals (rw [rounds_succ]; go_wp2)
  go_ret
  exact ⟨rfl, rfl⟩

theorem in_EM_4 (w : World) : Calls Tryd.prog 29 #[.int .i64 4, .string ⟨#[69, 77]⟩] w fun r w' => r = .returned (.bool true) ∧ w = w' := by
  have e0 : (([77] : List UInt8) == (((⟨#[69, 77]⟩ : ByteArray)).extract 0 1).toList) = false := by kernel_rfl
  have e1 : (([77] : List UInt8) == (((⟨#[69, 77]⟩ : ByteArray)).extract 1 2).toList) = true := by kernel_rfl
  go_enter Tryd.func29, Tryd.ntmps29
  go_wp2_with fail
  refine (letter_4 w).mono ?_
  rintro r w1 ⟨rfl, rfl⟩
  go_wp2
  refine wp_loop_rounds 3 ?_
  repeat any_goals (rw [rounds_succ]; go_wp2)
  go_ret
  exact ⟨rfl, rfl⟩

theorem in_EM_out (s : Int) (h : isB s = false) (w : World) : Calls Tryd.prog 29 #[.int .i64 s, .string ⟨#[69, 77]⟩] w fun r w' => r = .returned (.bool false) ∧ w = w' := by
  have H := hide h
  clear h
  have e0 : (([] : List UInt8) == (((⟨#[69, 77]⟩ : ByteArray)).extract 0 1).toList) = false := by kernel_rfl
  have e1 : (([] : List UInt8) == (((⟨#[69, 77]⟩ : ByteArray)).extract 1 2).toList) = false := by kernel_rfl
  go_enter Tryd.func29, Tryd.ntmps29
  go_wp2_with fail
  refine (letter_out s H.out w).mono ?_
  rintro r w1 ⟨rfl, rfl⟩
  go_wp2
  refine wp_loop_rounds 3 ?_
  repeat any_goals (rw [rounds_succ]; go_wp2)
  go_ret
  exact ⟨rfl, rfl⟩
theorem rstore_any (s : Int) (w : World) : Calls Tryd.prog 14 #[.int .i64 s] w fun r w' => r = .returned (.bool (stB s)) ∧ w = w' := by
  by_cases h : 0 ≤ s ∧ s ≤ 4
  · rcases five h with rfl | rfl | rfl | rfl | rfl
    · go_enter Tryd.func14, Tryd.ntmps14
      go_wp2_with fail
      refine (in_EM_0 w).mono ?_
      rintro r w1 ⟨rfl, rfl⟩
      go_wp2
      go_ret
      exact ⟨ret_bool (by decide), rfl⟩
    · go_enter Tryd.func14, Tryd.ntmps14
      go_wp2_with fail
      refine (in_EM_1 w).mono ?_
      rintro r w1 ⟨rfl, rfl⟩
      go_wp2
      go_ret
      exact ⟨ret_bool (by decide), rfl⟩
    · go_enter Tryd.func14, Tryd.ntmps14
      go_wp2_with fail
      refine (in_EM_2 w).mono ?_
      rintro r w1 ⟨rfl, rfl⟩
      go_wp2
      go_ret
      exact ⟨ret_bool (by decide), rfl⟩
    · go_enter Tryd.func14, Tryd.ntmps14
      go_wp2_with fail
      refine (in_EM_3 w).mono ?_
      rintro r w1 ⟨rfl, rfl⟩
      go_wp2
      go_ret
      exact ⟨ret_bool (by decide), rfl⟩
    · go_enter Tryd.func14, Tryd.ntmps14
      go_wp2_with fail
      refine (in_EM_4 w).mono ?_
      rintro r w1 ⟨rfl, rfl⟩
      go_wp2
      go_ret
      exact ⟨ret_bool (by decide), rfl⟩
  · have hi : isB s = false := by unfold isB; simpa using h
    have H := hide hi
    clear hi h
    go_enter Tryd.func14, Tryd.ntmps14
    go_wp2_with fail
    refine (in_EM_out s H.out w).mono ?_
    rintro r w1 ⟨rfl, rfl⟩
    go_wp2
    go_ret
    exact ⟨ret_bool (by have := out_of H.out; unfold stB; simp; omega), rfl⟩
theorem rstore_v (s : Int) (v : Bool) (h : stB s = v) (w : World) : Calls Tryd.prog 14 #[.int .i64 s] w fun r w' => r = .returned (.bool v) ∧ w = w' := by
  subst h; exact rstore_any s w

theorem in_OM_0 (w : World) : Calls Tryd.prog 29 #[.int .i64 0, .string ⟨#[79, 77]⟩] w fun r w' => r = .returned (.bool false) ∧ w = w' := by
  have e0 : (([73] : List UInt8) == (((⟨#[79, 77]⟩ : ByteArray)).extract 0 1).toList) = false := by kernel_rfl
  have e1 : (([73] : List UInt8) == (((⟨#[79, 77]⟩ : ByteArray)).extract 1 2).toList) = false := by kernel_rfl
  go_enter Tryd.func29, Tryd.ntmps29
  go_wp2_with fail
  refine (letter_0 w).mono ?_
  rintro r w1 ⟨rfl, rfl⟩
  go_wp2
  refine wp_loop_rounds 3 ?_
  repeat any_goals (rw [rounds_succ]; go_wp2)
  go_ret
  exact ⟨rfl, rfl⟩

theorem in_OM_1 (w : World) : Calls Tryd.prog 29 #[.int .i64 1, .string ⟨#[79, 77]⟩] w fun r w' => r = .returned (.bool false) ∧ w = w' := by
  have e0 : (([83] : List UInt8) == (((⟨#[79, 77]⟩ : ByteArray)).extract 0 1).toList) = false := by kernel_rfl
  have e1 : (([83] : List UInt8) == (((⟨#[79, 77]⟩ : ByteArray)).extract 1 2).toList) = false := by kernel_rfl
  go_enter Tryd.func29, Tryd.ntmps29
  go_wp2_with fail
  refine (letter_1 w).mono ?_
  rintro r w1 ⟨rfl, rfl⟩
  go_wp2
  refine wp_loop_rounds 3 ?_
  repeat any_goals (rw [rounds_succ]; go_wp2)
  go_ret
  exact ⟨rfl, rfl⟩

theorem in_OM_2 (w : World) : Calls Tryd.prog 29 #[.int .i64 2, .string ⟨#[79, 77]⟩] w fun r w' => r = .returned (.bool false) ∧ w = w' := by
  have e0 : (([69] : List UInt8) == (((⟨#[79, 77]⟩ : ByteArray)).extract 0 1).toList) = false := by kernel_rfl
  have e1 : (([69] : List UInt8) == (((⟨#[79, 77]⟩ : ByteArray)).extract 1 2).toList) = false := by kernel_rfl
  go_enter Tryd.func29, Tryd.ntmps29
  go_wp2_with fail
  refine (letter_2 w).mono ?_
  rintro r w1 ⟨rfl, rfl⟩
  go_wp2
  refine wp_loop_rounds 3 ?_
  repeat any_goals (rw [rounds_succ]; go_wp2)
  go_ret
  exact ⟨rfl, rfl⟩

theorem in_OM_3 (w : World) : Calls Tryd.prog 29 #[.int .i64 3, .string ⟨#[79, 77]⟩] w fun r w' => r = .returned (.bool true) ∧ w = w' := by
  have e0 : (([79] : List UInt8) == (((⟨#[79, 77]⟩ : ByteArray)).extract 0 1).toList) = true := by kernel_rfl
  have e1 : (([79] : List UInt8) == (((⟨#[79, 77]⟩ : ByteArray)).extract 1 2).toList) = false := by kernel_rfl
  go_enter Tryd.func29, Tryd.ntmps29
  go_wp2_with fail
  refine (letter_3 w).mono ?_
  rintro r w1 ⟨rfl, rfl⟩
  go_wp2
  refine wp_loop_rounds 3 ?_
  repeat any_goals (rw [rounds_succ]; go_wp2)
  go_ret
  exact ⟨rfl, rfl⟩

theorem in_OM_4 (w : World) : Calls Tryd.prog 29 #[.int .i64 4, .string ⟨#[79, 77]⟩] w fun r w' => r = .returned (.bool true) ∧ w = w' := by
  have e0 : (([77] : List UInt8) == (((⟨#[79, 77]⟩ : ByteArray)).extract 0 1).toList) = false := by kernel_rfl
  have e1 : (([77] : List UInt8) == (((⟨#[79, 77]⟩ : ByteArray)).extract 1 2).toList) = true := by kernel_rfl
  go_enter Tryd.func29, Tryd.ntmps29
  go_wp2_with fail
  refine (letter_4 w).mono ?_
  rintro r w1 ⟨rfl, rfl⟩
  go_wp2
  refine wp_loop_rounds 3 ?_
  repeat any_goals (rw [rounds_succ]; go_wp2)
  go_ret
  exact ⟨rfl, rfl⟩

theorem in_OM_out (s : Int) (h : isB s = false) (w : World) : Calls Tryd.prog 29 #[.int .i64 s, .string ⟨#[79, 77]⟩] w fun r w' => r = .returned (.bool false) ∧ w = w' := by
  have H := hide h
  clear h
  have e0 : (([] : List UInt8) == (((⟨#[79, 77]⟩ : ByteArray)).extract 0 1).toList) = false := by kernel_rfl
  have e1 : (([] : List UInt8) == (((⟨#[79, 77]⟩ : ByteArray)).extract 1 2).toList) = false := by kernel_rfl
  go_enter Tryd.func29, Tryd.ntmps29
  go_wp2_with fail
  refine (letter_out s H.out w).mono ?_
  rintro r w1 ⟨rfl, rfl⟩
  go_wp2
  refine wp_loop_rounds 3 ?_
  repeat any_goals (rw [rounds_succ]; go_wp2)
  go_ret
  exact ⟨rfl, rfl⟩
theorem rdirty_any (s : Int) (w : World) : Calls Tryd.prog 16 #[.int .i64 s] w fun r w' => r = .returned (.bool (diB s)) ∧ w = w' := by
  by_cases h : 0 ≤ s ∧ s ≤ 4
  · rcases five h with rfl | rfl | rfl | rfl | rfl
    · go_enter Tryd.func16, Tryd.ntmps16
      go_wp2_with fail
      refine (in_OM_0 w).mono ?_
      rintro r w1 ⟨rfl, rfl⟩
      go_wp2
      go_ret
      exact ⟨ret_bool (by decide), rfl⟩
    · go_enter Tryd.func16, Tryd.ntmps16
      go_wp2_with fail
      refine (in_OM_1 w).mono ?_
      rintro r w1 ⟨rfl, rfl⟩
      go_wp2
      go_ret
      exact ⟨ret_bool (by decide), rfl⟩
    · go_enter Tryd.func16, Tryd.ntmps16
      go_wp2_with fail
      refine (in_OM_2 w).mono ?_
      rintro r w1 ⟨rfl, rfl⟩
      go_wp2
      go_ret
      exact ⟨ret_bool (by decide), rfl⟩
    · go_enter Tryd.func16, Tryd.ntmps16
      go_wp2_with fail
      refine (in_OM_3 w).mono ?_
      rintro r w1 ⟨rfl, rfl⟩
      go_wp2
      go_ret
      exact ⟨ret_bool (by decide), rfl⟩
    · go_enter Tryd.func16, Tryd.ntmps16
      go_wp2_with fail
      refine (in_OM_4 w).mono ?_
      rintro r w1 ⟨rfl, rfl⟩
      go_wp2
      go_ret
      exact ⟨ret_bool (by decide), rfl⟩
  · have hi : isB s = false := by unfold isB; simpa using h
    have H := hide hi
    clear hi h
    go_enter Tryd.func16, Tryd.ntmps16
    go_wp2_with fail
    refine (in_OM_out s H.out w).mono ?_
    rintro r w1 ⟨rfl, rfl⟩
    go_wp2
    go_ret
    exact ⟨ret_bool (by have := out_of H.out; unfold diB; simp; omega), rfl⟩
theorem rdirty_v (s : Int) (v : Bool) (h : diB s = v) (w : World) : Calls Tryd.prog 16 #[.int .i64 s] w fun r w' => r = .returned (.bool v) ∧ w = w' := by
  subst h; exact rdirty_any s w

theorem in_EOM_0 (w : World) : Calls Tryd.prog 29 #[.int .i64 0, .string ⟨#[69, 79, 77]⟩] w fun r w' => r = .returned (.bool false) ∧ w = w' := by
  have e0 : (([73] : List UInt8) == (((⟨#[69, 79, 77]⟩ : ByteArray)).extract 0 1).toList) = false := by kernel_rfl
  have e1 : (([73] : List UInt8) == (((⟨#[69, 79, 77]⟩ : ByteArray)).extract 1 2).toList) = false := by kernel_rfl
  have e2 : (([73] : List UInt8) == (((⟨#[69, 79, 77]⟩ : ByteArray)).extract 2 3).toList) = false := by kernel_rfl
  go_enter Tryd.func29, Tryd.ntmps29
  go_wp2_with fail
  refine (letter_0 w).mono ?_
  rintro r w1 ⟨rfl, rfl⟩
  go_wp2
  refine wp_loop_rounds 4 ?_
  repeat any_goals (rw [rounds_succ]; go_wp2)
  go_ret
  exact ⟨rfl, rfl⟩

theorem in_EOM_1 (w : World) : Calls Tryd.prog 29 #[.int .i64 1, .string ⟨#[69, 79, 77]⟩] w fun r w' => r = .returned (.bool false) ∧ w = w' := by
  have e0 : (([83] : List UInt8) == (((⟨#[69, 79, 77]⟩ : ByteArray)).extract 0 1).toList) = false := by kernel_rfl
  have e1 : (([83] : List UInt8) == (((⟨#[69, 79, 77]⟩ : ByteArray)).extract 1 2).toList) = false := by kernel_rfl
  have e2 : (([83] : List UInt8) == (((⟨#[69, 79, 77]⟩ : ByteArray)).extract 2 3).toList) = false := by kernel_rfl
  go_enter Tryd.func29, Tryd.ntmps29
  go_wp2_with fail
  refine (letter_1 w).mono ?_
  rintro r w1 ⟨rfl, rfl⟩
  go_wp2
  refine wp_loop_rounds 4 ?_
  repeat any_goals (rw [rounds_succ]; go_wp2)
  go_ret
  exact ⟨rfl, rfl⟩

theorem in_EOM_2 (w : World) : Calls Tryd.prog 29 #[.int .i64 2, .string ⟨#[69, 79, 77]⟩] w fun r w' => r = .returned (.bool true) ∧ w = w' := by
  have e0 : (([69] : List UInt8) == (((⟨#[69, 79, 77]⟩ : ByteArray)).extract 0 1).toList) = true := by kernel_rfl
  have e1 : (([69] : List UInt8) == (((⟨#[69, 79, 77]⟩ : ByteArray)).extract 1 2).toList) = false := by kernel_rfl
  have e2 : (([69] : List UInt8) == (((⟨#[69, 79, 77]⟩ : ByteArray)).extract 2 3).toList) = false := by kernel_rfl
  go_enter Tryd.func29, Tryd.ntmps29
  go_wp2_with fail
  refine (letter_2 w).mono ?_
  rintro r w1 ⟨rfl, rfl⟩
  go_wp2
  refine wp_loop_rounds 4 ?_
  repeat any_goals (rw [rounds_succ]; go_wp2)
  go_ret
  exact ⟨rfl, rfl⟩

theorem in_EOM_3 (w : World) : Calls Tryd.prog 29 #[.int .i64 3, .string ⟨#[69, 79, 77]⟩] w fun r w' => r = .returned (.bool true) ∧ w = w' := by
  have e0 : (([79] : List UInt8) == (((⟨#[69, 79, 77]⟩ : ByteArray)).extract 0 1).toList) = false := by kernel_rfl
  have e1 : (([79] : List UInt8) == (((⟨#[69, 79, 77]⟩ : ByteArray)).extract 1 2).toList) = true := by kernel_rfl
  have e2 : (([79] : List UInt8) == (((⟨#[69, 79, 77]⟩ : ByteArray)).extract 2 3).toList) = false := by kernel_rfl
  go_enter Tryd.func29, Tryd.ntmps29
  go_wp2_with fail
  refine (letter_3 w).mono ?_
  rintro r w1 ⟨rfl, rfl⟩
  go_wp2
  refine wp_loop_rounds 4 ?_
  repeat any_goals (rw [rounds_succ]; go_wp2)
  go_ret
  exact ⟨rfl, rfl⟩

theorem in_EOM_4 (w : World) : Calls Tryd.prog 29 #[.int .i64 4, .string ⟨#[69, 79, 77]⟩] w fun r w' => r = .returned (.bool true) ∧ w = w' := by
  have e0 : (([77] : List UInt8) == (((⟨#[69, 79, 77]⟩ : ByteArray)).extract 0 1).toList) = false := by kernel_rfl
  have e1 : (([77] : List UInt8) == (((⟨#[69, 79, 77]⟩ : ByteArray)).extract 1 2).toList) = false := by kernel_rfl
  have e2 : (([77] : List UInt8) == (((⟨#[69, 79, 77]⟩ : ByteArray)).extract 2 3).toList) = true := by kernel_rfl
  go_enter Tryd.func29, Tryd.ntmps29
  go_wp2_with fail
  refine (letter_4 w).mono ?_
  rintro r w1 ⟨rfl, rfl⟩
  go_wp2
  refine wp_loop_rounds 4 ?_
  repeat any_goals (rw [rounds_succ]; go_wp2)
  go_ret
  exact ⟨rfl, rfl⟩

theorem in_EOM_out (s : Int) (h : isB s = false) (w : World) : Calls Tryd.prog 29 #[.int .i64 s, .string ⟨#[69, 79, 77]⟩] w fun r w' => r = .returned (.bool false) ∧ w = w' := by
  have H := hide h
  clear h
  have e0 : (([] : List UInt8) == (((⟨#[69, 79, 77]⟩ : ByteArray)).extract 0 1).toList) = false := by kernel_rfl
  have e1 : (([] : List UInt8) == (((⟨#[69, 79, 77]⟩ : ByteArray)).extract 1 2).toList) = false := by kernel_rfl
  have e2 : (([] : List UInt8) == (((⟨#[69, 79, 77]⟩ : ByteArray)).extract 2 3).toList) = false := by kernel_rfl
  go_enter Tryd.func29, Tryd.ntmps29
  go_wp2_with fail
  refine (letter_out s H.out w).mono ?_
  rintro r w1 ⟨rfl, rfl⟩
  go_wp2
  refine wp_loop_rounds 4 ?_
  repeat any_goals (rw [rounds_succ]; go_wp2)
  go_ret
  exact ⟨rfl, rfl⟩
theorem rowner_any (s : Int) (w : World) : Calls Tryd.prog 18 #[.int .i64 s] w fun r w' => r = .returned (.bool (owB s)) ∧ w = w' := by
  by_cases h : 0 ≤ s ∧ s ≤ 4
  · rcases five h with rfl | rfl | rfl | rfl | rfl
    · go_enter Tryd.func18, Tryd.ntmps18
      go_wp2_with fail
      refine (in_EOM_0 w).mono ?_
      rintro r w1 ⟨rfl, rfl⟩
      go_wp2
      go_ret
      exact ⟨ret_bool (by decide), rfl⟩
    · go_enter Tryd.func18, Tryd.ntmps18
      go_wp2_with fail
      refine (in_EOM_1 w).mono ?_
      rintro r w1 ⟨rfl, rfl⟩
      go_wp2
      go_ret
      exact ⟨ret_bool (by decide), rfl⟩
    · go_enter Tryd.func18, Tryd.ntmps18
      go_wp2_with fail
      refine (in_EOM_2 w).mono ?_
      rintro r w1 ⟨rfl, rfl⟩
      go_wp2
      go_ret
      exact ⟨ret_bool (by decide), rfl⟩
    · go_enter Tryd.func18, Tryd.ntmps18
      go_wp2_with fail
      refine (in_EOM_3 w).mono ?_
      rintro r w1 ⟨rfl, rfl⟩
      go_wp2
      go_ret
      exact ⟨ret_bool (by decide), rfl⟩
    · go_enter Tryd.func18, Tryd.ntmps18
      go_wp2_with fail
      refine (in_EOM_4 w).mono ?_
      rintro r w1 ⟨rfl, rfl⟩
      go_wp2
      go_ret
      exact ⟨ret_bool (by decide), rfl⟩
  · have hi : isB s = false := by unfold isB; simpa using h
    have H := hide hi
    clear hi h
    go_enter Tryd.func18, Tryd.ntmps18
    go_wp2_with fail
    refine (in_EOM_out s H.out w).mono ?_
    rintro r w1 ⟨rfl, rfl⟩
    go_wp2
    go_ret
    exact ⟨ret_bool (by have := out_of H.out; unfold owB; simp; omega), rfl⟩
theorem rowner_v (s : Int) (v : Bool) (h : owB s = v) (w : World) : Calls Tryd.prog 18 #[.int .i64 s] w fun r w' => r = .returned (.bool v) ∧ w = w' := by
  subst h; exact rowner_any s w

theorem letter_any (s : Int) (w : World) : Calls Tryd.prog 20 #[.int .i64 s] w fun r w' => r = .returned (.string (letS s)) ∧ w = w' := by
  by_cases h : 0 ≤ s ∧ s ≤ 4
  · rcases five h with rfl | rfl | rfl | rfl | rfl
    · exact letter_0 w
    · exact letter_1 w
    · exact letter_2 w
    · exact letter_3 w
    · exact letter_4 w
  · have hi : isB s = false := by unfold isB; simpa using h
    refine (letter_out s hi w).mono ?_
    rintro r w1 ⟨rfl, rfl⟩
    exact ⟨ret_str (by have := out_of hi; unfold letS; rw [if_neg (by omega), if_neg (by omega), if_neg (by omega), if_neg (by omega), if_neg (by omega)]), rfl⟩
def prB (s : Int) : Int := if s = 1 ∨ s = 2 then 1 else if s = 3 ∨ s = 4 then 3 else 0
theorem probed_t0 (w : World) : Calls Tryd.prog 24 #[.int .i64 0, .bool true] w fun r w' => r = .returned (.int .i64 0) ∧ w = w' := by
  go_enter Tryd.func24, Tryd.ntmps24
  go_wp2_with fail
  refine (letter_0 w).mono ?_
  rintro r w1 ⟨rfl, rfl⟩
  go_wp2
  go_ret
  exact ⟨rfl, rfl⟩
theorem probed_t1 (w : World) : Calls Tryd.prog 24 #[.int .i64 1, .bool true] w fun r w' => r = .returned (.int .i64 1) ∧ w = w' := by
  go_enter Tryd.func24, Tryd.ntmps24
  go_wp2_with fail
  refine (letter_1 w).mono ?_
  rintro r w1 ⟨rfl, rfl⟩
  go_wp2
  go_ret
  exact ⟨rfl, rfl⟩
theorem probed_t2 (w : World) : Calls Tryd.prog 24 #[.int .i64 2, .bool true] w fun r w' => r = .returned (.int .i64 1) ∧ w = w' := by
  go_enter Tryd.func24, Tryd.ntmps24
  go_wp2_with fail
  refine (letter_2 w).mono ?_
  rintro r w1 ⟨rfl, rfl⟩
  go_wp2
  go_ret
  exact ⟨rfl, rfl⟩
theorem probed_t3 (w : World) : Calls Tryd.prog 24 #[.int .i64 3, .bool true] w fun r w' => r = .returned (.int .i64 3) ∧ w = w' := by
  go_enter Tryd.func24, Tryd.ntmps24
  go_wp2_with fail
  refine (letter_3 w).mono ?_
  rintro r w1 ⟨rfl, rfl⟩
  go_wp2
  go_ret
  exact ⟨rfl, rfl⟩
theorem probed_t4 (w : World) : Calls Tryd.prog 24 #[.int .i64 4, .bool true] w fun r w' => r = .returned (.int .i64 3) ∧ w = w' := by
  go_enter Tryd.func24, Tryd.ntmps24
  go_wp2_with fail
  refine (letter_4 w).mono ?_
  rintro r w1 ⟨rfl, rfl⟩
  go_wp2
  go_ret
  exact ⟨rfl, rfl⟩
theorem probed_f (s : Int) (w : World) : Calls Tryd.prog 24 #[.int .i64 s, .bool false] w fun r w' => r = .returned (.int .i64 0) ∧ w = w' := by
  go_enter Tryd.func24, Tryd.ntmps24
  go_wp2
  go_ret
  exact ⟨rfl, rfl⟩

theorem wrote_out (s : Int) (h : isB s = false) (w : World) : Calls Tryd.prog 21 #[.int .i64 s] w fun r w' => r = .returned (.tuple #[.int .i64 0, .int .i64 10]) ∧ w = w' := by
  have H := hide h
  clear h
  go_enter Tryd.func21, Tryd.ntmps21
  go_wp2_with fail
  refine (is_v s false H.out w).mono ?_
  rintro r w1 ⟨rfl, rfl⟩
  go_wp2
  go_ret2
  exact ⟨rfl, rfl⟩
theorem wrote_0 (w : World) (T : Tab w) : Calls Tryd.prog 21 #[.int .i64 0] w fun r w' => r = .returned (.tuple #[.int .i64 0, .int .i64 16]) ∧ Below w.heap.size w w' := by
  have TT := hide T
  clear T
  go_enter Tryd.func21, Tryd.ntmps21
  go_wp2_with fail
  refine (is_v 0 true (by decide) w).mono ?_
  rintro r w1 ⟨rfl, rfl⟩
  go_wp2_with fail
  refine (store_v 0 false (by decide) w TT.out).mono ?_
  rintro r w1 ⟨rfl, hb⟩
  obtain ⟨c0, c1, c2, c3, c4, c5, c6⟩ := ((show Tab w from TT.out).next hb).row0
  go_wp2
  go_ret2
  exact ⟨rfl, hb⟩
theorem wrote_1 (w : World) (T : Tab w) : Calls Tryd.prog 21 #[.int .i64 1] w fun r w' => r = .returned (.tuple #[.int .i64 0, .int .i64 16]) ∧ Below w.heap.size w w' := by
  have TT := hide T
  clear T
  go_enter Tryd.func21, Tryd.ntmps21
  go_wp2_with fail
  refine (is_v 1 true (by decide) w).mono ?_
  rintro r w1 ⟨rfl, rfl⟩
  go_wp2_with fail
  refine (store_v 1 false (by decide) w TT.out).mono ?_
  rintro r w1 ⟨rfl, hb⟩
  obtain ⟨c0, c1, c2, c3, c4, c5, c6⟩ := ((show Tab w from TT.out).next hb).row1
  go_wp2
  go_ret2
  exact ⟨rfl, hb⟩
theorem wrote_2 (w : World) (T : Tab w) : Calls Tryd.prog 21 #[.int .i64 2] w fun r w' => r = .returned (.tuple #[.int .i64 4, .int .i64 0]) ∧ Below w.heap.size w w' := by
  have TT := hide T
  clear T
  go_enter Tryd.func21, Tryd.ntmps21
  go_wp2_with fail
  refine (is_v 2 true (by decide) w).mono ?_
  rintro r w1 ⟨rfl, rfl⟩
  go_wp2_with fail
  refine (store_v 2 true (by decide) w TT.out).mono ?_
  rintro r w1 ⟨rfl, hb⟩
  obtain ⟨c0, c1, c2, c3, c4, c5, c6⟩ := ((show Tab w from TT.out).next hb).row2
  go_wp2
  go_ret2
  exact ⟨rfl, hb⟩
theorem wrote_3 (w : World) (T : Tab w) : Calls Tryd.prog 21 #[.int .i64 3] w fun r w' => r = .returned (.tuple #[.int .i64 0, .int .i64 16]) ∧ Below w.heap.size w w' := by
  have TT := hide T
  clear T
  go_enter Tryd.func21, Tryd.ntmps21
  go_wp2_with fail
  refine (is_v 3 true (by decide) w).mono ?_
  rintro r w1 ⟨rfl, rfl⟩
  go_wp2_with fail
  refine (store_v 3 false (by decide) w TT.out).mono ?_
  rintro r w1 ⟨rfl, hb⟩
  obtain ⟨c0, c1, c2, c3, c4, c5, c6⟩ := ((show Tab w from TT.out).next hb).row3
  go_wp2
  go_ret2
  exact ⟨rfl, hb⟩
theorem wrote_4 (w : World) (T : Tab w) : Calls Tryd.prog 21 #[.int .i64 4] w fun r w' => r = .returned (.tuple #[.int .i64 4, .int .i64 0]) ∧ Below w.heap.size w w' := by
  have TT := hide T
  clear T
  go_enter Tryd.func21, Tryd.ntmps21
  go_wp2_with fail
  refine (is_v 4 true (by decide) w).mono ?_
  rintro r w1 ⟨rfl, rfl⟩
  go_wp2_with fail
  refine (store_v 4 true (by decide) w TT.out).mono ?_
  rintro r w1 ⟨rfl, hb⟩
  obtain ⟨c0, c1, c2, c3, c4, c5, c6⟩ := ((show Tab w from TT.out).next hb).row4
  go_wp2
  go_ret2
  exact ⟨rfl, hb⟩

theorem results_tmp4 {fn : Func} {t u v x : Tmp} (h : fn.results = #[.tmp t, .tmp u, .tmp v, .tmp x]) (tmps : Array Value) (P : Program) (w : World) :
    (results fn tmps).run P w = .ok (.tuple #[tmps.getD t undef, tmps.getD u undef, tmps.getD v undef, tmps.getD x undef]) w := by simp [results, h]
theorem probe_bad (s to : Int) (h : isB s = false) (w : World) : Calls Tryd.prog 23 #[.int .i64 s, .int .i64 to] w fun r w' => r = .returned (.tuple #[.int .i64 0, .bool false, .bool false, .int .i64 10]) ∧ w = w' := by
  have H := hide h
  clear h
  go_enter Tryd.func23, Tryd.ntmps23
  go_wp2_with fail
  refine (is_v s false H.out w).mono ?_
  rintro r w1 ⟨rfl, rfl⟩
  go_wp2
  refine bodyPost_ret (results_tmp4 rfl _ _ _) rfl ?_
  exact ⟨rfl, rfl⟩
theorem probe_to (s to : Int) (h : isB s = true) (h0 : to ≠ 0) (h1 : to ≠ 1) (w : World) : Calls Tryd.prog 23 #[.int .i64 s, .int .i64 to] w fun r w' => r = .returned (.tuple #[.int .i64 0, .bool false, .bool false, .int .i64 10]) ∧ w = w' := by
  have H := hide h
  clear h
  have e0 : (to != 0) = true := by simpa using h0
  have e1 : (to != 1) = true := by simpa using h1
  have h0 := hide h0
  have h1 := hide h1
  go_enter Tryd.func23, Tryd.ntmps23
  go_wp2_with fail
  refine (is_v s true H.out w).mono ?_
  rintro r w1 ⟨rfl, rfl⟩
  go_wp2
  refine bodyPost_ret (results_tmp4 rfl _ _ _) rfl ?_
  exact ⟨rfl, rfl⟩
theorem probe_0_0 (w : World) (T : Tab w) : Calls Tryd.prog 23 #[.int .i64 0, .int .i64 0] w fun r w' => r = .returned (.tuple #[.int .i64 0, .bool false, .bool false, .int .i64 0]) ∧ Below w.heap.size w w' := by
  have TT := hide T
  clear T
  go_enter Tryd.func23, Tryd.ntmps23
  go_wp2_with fail
  refine (is_v 0 true (by decide) w).mono ?_
  rintro r w1 ⟨rfl, rfl⟩
  obtain ⟨c0, c1, c2, c3, c4, c5, c6⟩ := (show Tab w from TT.out).row0
  go_wp2_with fail
  refine (owner_v 0 false (by decide) w TT.out).mono ?_
  rintro r w1 ⟨rfl, hb⟩
  go_wp2_with fail
  refine (dirty_v 0 false (by decide) w1 ((show Tab w from TT.out).next hb)).mono ?_
  rintro r w2 ⟨rfl, hb2⟩
  go_wp2
  refine bodyPost_ret (results_tmp4 rfl _ _ _) rfl ?_
  exact ⟨rfl, below_step hb hb.size hb2⟩
theorem probe_0_1 (w : World) (T : Tab w) : Calls Tryd.prog 23 #[.int .i64 0, .int .i64 1] w fun r w' => r = .returned (.tuple #[.int .i64 0, .bool false, .bool false, .int .i64 0]) ∧ Below w.heap.size w w' := by
  have TT := hide T
  clear T
  go_enter Tryd.func23, Tryd.ntmps23
  go_wp2_with fail
  refine (is_v 0 true (by decide) w).mono ?_
  rintro r w1 ⟨rfl, rfl⟩
  obtain ⟨c0, c1, c2, c3, c4, c5, c6⟩ := (show Tab w from TT.out).row0
  go_wp2_with fail
  refine (owner_v 0 false (by decide) w TT.out).mono ?_
  rintro r w1 ⟨rfl, hb⟩
  go_wp2_with fail
  refine (dirty_v 0 false (by decide) w1 ((show Tab w from TT.out).next hb)).mono ?_
  rintro r w2 ⟨rfl, hb2⟩
  go_wp2
  refine bodyPost_ret (results_tmp4 rfl _ _ _) rfl ?_
  exact ⟨rfl, below_step hb hb.size hb2⟩
theorem probe_1_0 (w : World) (T : Tab w) : Calls Tryd.prog 23 #[.int .i64 1, .int .i64 0] w fun r w' => r = .returned (.tuple #[.int .i64 0, .bool false, .bool false, .int .i64 0]) ∧ Below w.heap.size w w' := by
  have TT := hide T
  clear T
  go_enter Tryd.func23, Tryd.ntmps23
  go_wp2_with fail
  refine (is_v 1 true (by decide) w).mono ?_
  rintro r w1 ⟨rfl, rfl⟩
  obtain ⟨c0, c1, c2, c3, c4, c5, c6⟩ := (show Tab w from TT.out).row1
  go_wp2_with fail
  refine (owner_v 1 false (by decide) w TT.out).mono ?_
  rintro r w1 ⟨rfl, hb⟩
  go_wp2_with fail
  refine (dirty_v 1 false (by decide) w1 ((show Tab w from TT.out).next hb)).mono ?_
  rintro r w2 ⟨rfl, hb2⟩
  go_wp2
  refine bodyPost_ret (results_tmp4 rfl _ _ _) rfl ?_
  exact ⟨rfl, below_step hb hb.size hb2⟩
theorem probe_1_1 (w : World) (T : Tab w) : Calls Tryd.prog 23 #[.int .i64 1, .int .i64 1] w fun r w' => r = .returned (.tuple #[.int .i64 1, .bool false, .bool false, .int .i64 0]) ∧ Below w.heap.size w w' := by
  have TT := hide T
  clear T
  go_enter Tryd.func23, Tryd.ntmps23
  go_wp2_with fail
  refine (is_v 1 true (by decide) w).mono ?_
  rintro r w1 ⟨rfl, rfl⟩
  obtain ⟨c0, c1, c2, c3, c4, c5, c6⟩ := (show Tab w from TT.out).row1
  go_wp2_with fail
  refine (owner_v 1 false (by decide) w TT.out).mono ?_
  rintro r w1 ⟨rfl, hb⟩
  go_wp2_with fail
  refine (dirty_v 1 false (by decide) w1 ((show Tab w from TT.out).next hb)).mono ?_
  rintro r w2 ⟨rfl, hb2⟩
  go_wp2
  refine bodyPost_ret (results_tmp4 rfl _ _ _) rfl ?_
  exact ⟨rfl, below_step hb hb.size hb2⟩
theorem probe_2_0 (w : World) (T : Tab w) : Calls Tryd.prog 23 #[.int .i64 2, .int .i64 0] w fun r w' => r = .returned (.tuple #[.int .i64 0, .bool true, .bool false, .int .i64 0]) ∧ Below w.heap.size w w' := by
  have TT := hide T
  clear T
  go_enter Tryd.func23, Tryd.ntmps23
  go_wp2_with fail
  refine (is_v 2 true (by decide) w).mono ?_
  rintro r w1 ⟨rfl, rfl⟩
  obtain ⟨c0, c1, c2, c3, c4, c5, c6⟩ := (show Tab w from TT.out).row2
  go_wp2_with fail
  refine (owner_v 2 true (by decide) w TT.out).mono ?_
  rintro r w1 ⟨rfl, hb⟩
  go_wp2_with fail
  refine (dirty_v 2 false (by decide) w1 ((show Tab w from TT.out).next hb)).mono ?_
  rintro r w2 ⟨rfl, hb2⟩
  go_wp2
  refine bodyPost_ret (results_tmp4 rfl _ _ _) rfl ?_
  exact ⟨rfl, below_step hb hb.size hb2⟩
theorem probe_2_1 (w : World) (T : Tab w) : Calls Tryd.prog 23 #[.int .i64 2, .int .i64 1] w fun r w' => r = .returned (.tuple #[.int .i64 1, .bool true, .bool false, .int .i64 0]) ∧ Below w.heap.size w w' := by
  have TT := hide T
  clear T
  go_enter Tryd.func23, Tryd.ntmps23
  go_wp2_with fail
  refine (is_v 2 true (by decide) w).mono ?_
  rintro r w1 ⟨rfl, rfl⟩
  obtain ⟨c0, c1, c2, c3, c4, c5, c6⟩ := (show Tab w from TT.out).row2
  go_wp2_with fail
  refine (owner_v 2 true (by decide) w TT.out).mono ?_
  rintro r w1 ⟨rfl, hb⟩
  go_wp2_with fail
  refine (dirty_v 2 false (by decide) w1 ((show Tab w from TT.out).next hb)).mono ?_
  rintro r w2 ⟨rfl, hb2⟩
  go_wp2
  refine bodyPost_ret (results_tmp4 rfl _ _ _) rfl ?_
  exact ⟨rfl, below_step hb hb.size hb2⟩
theorem probe_3_0 (w : World) (T : Tab w) : Calls Tryd.prog 23 #[.int .i64 3, .int .i64 0] w fun r w' => r = .returned (.tuple #[.int .i64 0, .bool true, .bool true, .int .i64 0]) ∧ Below w.heap.size w w' := by
  have TT := hide T
  clear T
  go_enter Tryd.func23, Tryd.ntmps23
  go_wp2_with fail
  refine (is_v 3 true (by decide) w).mono ?_
  rintro r w1 ⟨rfl, rfl⟩
  obtain ⟨c0, c1, c2, c3, c4, c5, c6⟩ := (show Tab w from TT.out).row3
  go_wp2_with fail
  refine (owner_v 3 true (by decide) w TT.out).mono ?_
  rintro r w1 ⟨rfl, hb⟩
  go_wp2_with fail
  refine (dirty_v 3 true (by decide) w1 ((show Tab w from TT.out).next hb)).mono ?_
  rintro r w2 ⟨rfl, hb2⟩
  go_wp2
  refine bodyPost_ret (results_tmp4 rfl _ _ _) rfl ?_
  exact ⟨rfl, below_step hb hb.size hb2⟩
theorem probe_3_1 (w : World) (T : Tab w) : Calls Tryd.prog 23 #[.int .i64 3, .int .i64 1] w fun r w' => r = .returned (.tuple #[.int .i64 3, .bool true, .bool true, .int .i64 0]) ∧ Below w.heap.size w w' := by
  have TT := hide T
  clear T
  go_enter Tryd.func23, Tryd.ntmps23
  go_wp2_with fail
  refine (is_v 3 true (by decide) w).mono ?_
  rintro r w1 ⟨rfl, rfl⟩
  obtain ⟨c0, c1, c2, c3, c4, c5, c6⟩ := (show Tab w from TT.out).row3
  go_wp2_with fail
  refine (owner_v 3 true (by decide) w TT.out).mono ?_
  rintro r w1 ⟨rfl, hb⟩
  go_wp2_with fail
  refine (dirty_v 3 true (by decide) w1 ((show Tab w from TT.out).next hb)).mono ?_
  rintro r w2 ⟨rfl, hb2⟩
  go_wp2
  refine bodyPost_ret (results_tmp4 rfl _ _ _) rfl ?_
  exact ⟨rfl, below_step hb hb.size hb2⟩
theorem probe_4_0 (w : World) (T : Tab w) : Calls Tryd.prog 23 #[.int .i64 4, .int .i64 0] w fun r w' => r = .returned (.tuple #[.int .i64 0, .bool true, .bool true, .int .i64 0]) ∧ Below w.heap.size w w' := by
  have TT := hide T
  clear T
  go_enter Tryd.func23, Tryd.ntmps23
  go_wp2_with fail
  refine (is_v 4 true (by decide) w).mono ?_
  rintro r w1 ⟨rfl, rfl⟩
  obtain ⟨c0, c1, c2, c3, c4, c5, c6⟩ := (show Tab w from TT.out).row4
  go_wp2_with fail
  refine (owner_v 4 true (by decide) w TT.out).mono ?_
  rintro r w1 ⟨rfl, hb⟩
  go_wp2_with fail
  refine (dirty_v 4 true (by decide) w1 ((show Tab w from TT.out).next hb)).mono ?_
  rintro r w2 ⟨rfl, hb2⟩
  go_wp2
  refine bodyPost_ret (results_tmp4 rfl _ _ _) rfl ?_
  exact ⟨rfl, below_step hb hb.size hb2⟩
theorem probe_4_1 (w : World) (T : Tab w) : Calls Tryd.prog 23 #[.int .i64 4, .int .i64 1] w fun r w' => r = .returned (.tuple #[.int .i64 3, .bool true, .bool true, .int .i64 0]) ∧ Below w.heap.size w w' := by
  have TT := hide T
  clear T
  go_enter Tryd.func23, Tryd.ntmps23
  go_wp2_with fail
  refine (is_v 4 true (by decide) w).mono ?_
  rintro r w1 ⟨rfl, rfl⟩
  obtain ⟨c0, c1, c2, c3, c4, c5, c6⟩ := (show Tab w from TT.out).row4
  go_wp2_with fail
  refine (owner_v 4 true (by decide) w TT.out).mono ?_
  rintro r w1 ⟨rfl, hb⟩
  go_wp2_with fail
  refine (dirty_v 4 true (by decide) w1 ((show Tab w from TT.out).next hb)).mono ?_
  rintro r w2 ⟨rfl, hb2⟩
  go_wp2
  refine bodyPost_ret (results_tmp4 rfl _ _ _) rfl ?_
  exact ⟨rfl, below_step hb hb.size hb2⟩
end Go.Proofs.YtijhndmmljicmaaDoor
