/- place.Lines, Words, within, Line, Word, Granule, Bank, walked. -/
import Derived.Test.YtgdbjkkhmamdmaaA
import Derived.WalkKit
import Derived.WalkSpells
import Derived.ProofKit
import Derived.Outline
import Derived.Handy
import Derived.RowKit3
import Derived.BigQuiet
import Derived.Deep.QuietTactic
namespace Go.Proofs.Ytgdbjkkhmamdmaa
open Go.RowKit

set_option maxRecDepth 100000
theorem lines_yes (a b c d e f g : Int) (h : Ok a b c d e f g) (w : World) : Calls Try.prog 10 #[.agg #[.int .i64 a, .int .i64 b, .int .i64 c, .int .i64 d, .int .i64 e, .int .i64 f, .int .i64 g]] w fun r w' => r = .returned (.int .i64 (b * 2)) ∧ Below w.heap.size w w' := by
  have h1 : 1 ≤ b := h.2.1.1
  have h2 : b ≤ 16 := h.2.1.2
  have H := hide h
  clear h
  go_enter Try.func10, Try.ntmps10
  go_wp2_with fail
  refine (check_yes _ _ _ _ _ _ _ H.out _).mono ?_
  rintro r w1 ⟨rfl, hb⟩
  obtain ⟨q, c0, c1, c2, c3, c4, c5, c6⟩ := (Box.new w a b c d e f g 23).next hb
  have hb' := below_alloc hb
  clear hb
  go_wp2
  go_ret
  exact ⟨rfl, hb'⟩
theorem lines_no (a b c d e f g : Int) (h : ¬ Ok a b c d e f g) (w : World) : Calls Try.prog 10 #[.agg #[.int .i64 a, .int .i64 b, .int .i64 c, .int .i64 d, .int .i64 e, .int .i64 f, .int .i64 g]] w fun r w' => r = .returned (.int .i64 0) ∧ Below w.heap.size w w' := by
  have H := hide h
  clear h
  go_enter Try.func10, Try.ntmps10
  go_wp2_with fail
  refine (check_no _ _ _ _ _ _ _ H.out _).mono ?_
  rintro r w1 ⟨rfl, hb⟩
  have hb' := below_alloc hb
  clear hb
  go_wp2
  go_ret
  exact ⟨rfl, hb'⟩
theorem words_yes (a b c d e f g : Int) (h : Ok a b c d e f g) (w : World) : Calls Try.prog 9 #[.agg #[.int .i64 a, .int .i64 b, .int .i64 c, .int .i64 d, .int .i64 e, .int .i64 f, .int .i64 g]] w fun r w' => r = .returned (.int .i64 (b * 2 * 2)) ∧ Below w.heap.size w w' := by
  have h1 : 1 ≤ b := h.2.1.1
  have h2 : b ≤ 16 := h.2.1.2
  have H := hide h
  clear h
  go_enter Try.func9, Try.ntmps9
  go_wp2_with fail
  refine (lines_yes _ _ _ _ _ _ _ H.out _).mono ?_
  rintro r w1 ⟨rfl, hb⟩
  have hb' := below_alloc hb
  clear hb
  go_wp2
  go_ret
  exact ⟨rfl, hb'⟩
theorem words_no (a b c d e f g : Int) (h : ¬ Ok a b c d e f g) (w : World) : Calls Try.prog 9 #[.agg #[.int .i64 a, .int .i64 b, .int .i64 c, .int .i64 d, .int .i64 e, .int .i64 f, .int .i64 g]] w fun r w' => r = .returned (.int .i64 0) ∧ Below w.heap.size w w' := by
  have H := hide h
  clear h
  go_enter Try.func9, Try.ntmps9
  go_wp2_with fail
  refine (lines_no _ _ _ _ _ _ _ H.out _).mono ?_
  rintro r w1 ⟨rfl, hb⟩
  have hb' := below_alloc hb
  clear hb
  go_wp2
  go_ret
  exact ⟨rfl, hb'⟩
theorem within_any (x n : Int) (w : World) : Calls Try.prog 20 #[.int .i64 x, .int .i64 n] w fun r w' => r = .returned (.bool (decide (0 ≤ x ∧ x < n))) ∧ w = w' := by
  by_cases h : 0 ≤ x
  · go_enter Try.func20, Try.ntmps20
    go_wp2
    go_ret
    exact ⟨ret_bool (by simp [h]), rfl⟩
  · go_enter Try.func20, Try.ntmps20
    go_wp2
    go_ret
    exact ⟨ret_bool (by simp; omega), rfl⟩
theorem within_yes (x n : Int) (h1 : 0 ≤ x) (h2 : x < n) (w : World) : Calls Try.prog 20 #[.int .i64 x, .int .i64 n] w fun r w' => r = .returned (.bool true) ∧ w = w' := by
  have k := within_any x n w; rw [decide_eq_true ⟨h1, h2⟩] at k; exact k
theorem within_no (x n : Int) (h : ¬ (0 ≤ x ∧ x < n)) (w : World) : Calls Try.prog 20 #[.int .i64 x, .int .i64 n] w fun r w' => r = .returned (.bool false) ∧ w = w' := by
  have k := within_any x n w; rw [decide_eq_false h] at k; exact k
end Go.Proofs.Ytgdbjkkhmamdmaa
