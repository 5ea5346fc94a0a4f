/- place.Line, Word, Granule, Bank, walked. -/
import Derived.Test.YtgdbjkkhmamdmaaB
import Derived.WalkKit
import Derived.WalkSpells
import Derived.ProofKit
import Derived.Outline
import Derived.Handy
import Derived.RowKit3
import Derived.BigQuiet
import Derived.Deep.QuietTactic
namespace Go.Proofs.Ytgdbjkkhmamdmaa
open Go.RowKit
set_option maxRecDepth 100000
theorem line_yes (a b c d e f g x : Int) (h : Ok a b c d e f g) (hx : 0 ≤ x) (hx2 : x < b * 2 * 2) (w : World) : Calls Try.prog 12 #[.agg #[.int .i64 a, .int .i64 b, .int .i64 c, .int .i64 d, .int .i64 e, .int .i64 f, .int .i64 g], .int .i64 x] w fun r w' => r = .returned (.tuple #[.int .i64 (x / 2), .int .i64 (x % 2), .int .i64 0]) ∧ Below w.heap.size w w' := by
  have h1 : 1 ≤ b := h.2.1.1
  have h2 : b ≤ 16 := h.2.1.2
  have h3 : 1 ≤ g := h.2.2.2.2.2.2.1
  have h4 : g ≤ 4 := h.2.2.2.2.2.2.2
  have H := hide h
  clear h
  go_enter Try.func12, Try.ntmps12
  go_wp2_with fail
  refine (words_yes _ _ _ _ _ _ _ H.out _).mono ?_
  rintro r w1 ⟨rfl, hb⟩
  obtain ⟨q, c0, c1, c2, c3, c4, c5, c6⟩ := (Box.new w a b c d e f g 23).next hb
  have hb' := below_alloc hb
  clear hb
  go_wp2_with fail
  refine (within_yes _ _ (by omega) (by omega) _).mono ?_
  rintro r w2 ⟨rfl, rfl⟩
  go_wp2
  go_ret3
  exact ⟨rfl, hb'⟩
theorem line_no (a b c d e f g x : Int) (h : Ok a b c d e f g) (hx : ¬ (0 ≤ x ∧ x < b * 2 * 2)) (w : World) : Calls Try.prog 12 #[.agg #[.int .i64 a, .int .i64 b, .int .i64 c, .int .i64 d, .int .i64 e, .int .i64 f, .int .i64 g], .int .i64 x] w fun r w' => r = .returned (.tuple #[.int .i64 0, .int .i64 0, .int .i64 10]) ∧ Below w.heap.size w w' := by
  have h1 : 1 ≤ b := h.2.1.1
  have h2 : b ≤ 16 := h.2.1.2
  have H := hide h
  clear h
  go_enter Try.func12, Try.ntmps12
  go_wp2_with fail
  refine (words_yes _ _ _ _ _ _ _ H.out _).mono ?_
  rintro r w1 ⟨rfl, hb⟩
  have hb' := below_alloc hb
  clear hb
  go_wp2_with fail
  refine (within_no _ _ (by omega) _).mono ?_
  rintro r w2 ⟨rfl, rfl⟩
  go_wp2
  go_ret3
  exact ⟨rfl, hb'⟩
theorem line_bad (a b c d e f g x : Int) (h : ¬ Ok a b c d e f g) (w : World) : Calls Try.prog 12 #[.agg #[.int .i64 a, .int .i64 b, .int .i64 c, .int .i64 d, .int .i64 e, .int .i64 f, .int .i64 g], .int .i64 x] w fun r w' => r = .returned (.tuple #[.int .i64 0, .int .i64 0, .int .i64 10]) ∧ Below w.heap.size w w' := by
  have H := hide h
  clear h
  go_enter Try.func12, Try.ntmps12
  go_wp2_with fail
  refine (words_no _ _ _ _ _ _ _ H.out _).mono ?_
  rintro r w1 ⟨rfl, hb⟩
  have hb' := below_alloc hb
  clear hb
  go_wp2_with fail
  refine (within_no _ _ (by omega) _).mono ?_
  rintro r w2 ⟨rfl, rfl⟩
  go_wp2
  go_ret3
  exact ⟨rfl, hb'⟩
theorem granule_yes (a b c d e f g x : Int) (h : Ok a b c d e f g) (hx : 0 ≤ x) (hx2 : x < b * 2) (w : World) : Calls Try.prog 14 #[.agg #[.int .i64 a, .int .i64 b, .int .i64 c, .int .i64 d, .int .i64 e, .int .i64 f, .int .i64 g], .int .i64 x] w fun r w' => r = .returned (.tuple #[.int .i64 (x / 2), .int .i64 0]) ∧ Below w.heap.size w w' := by
  have h1 : 1 ≤ b := h.2.1.1
  have h2 : b ≤ 16 := h.2.1.2
  have h3 : 1 ≤ g := h.2.2.2.2.2.2.1
  have h4 : g ≤ 4 := h.2.2.2.2.2.2.2
  have H := hide h
  clear h
  go_enter Try.func14, Try.ntmps14
  go_wp2_with fail
  refine (lines_yes _ _ _ _ _ _ _ H.out _).mono ?_
  rintro r w1 ⟨rfl, hb⟩
  obtain ⟨q, c0, c1, c2, c3, c4, c5, c6⟩ := (Box.new w a b c d e f g 23).next hb
  have hb' := below_alloc hb
  clear hb
  go_wp2_with fail
  refine (within_yes _ _ (by omega) (by omega) _).mono ?_
  rintro r w2 ⟨rfl, rfl⟩
  go_wp2
  go_ret2
  exact ⟨rfl, hb'⟩
theorem granule_no (a b c d e f g x : Int) (h : Ok a b c d e f g) (hx : ¬ (0 ≤ x ∧ x < b * 2)) (w : World) : Calls Try.prog 14 #[.agg #[.int .i64 a, .int .i64 b, .int .i64 c, .int .i64 d, .int .i64 e, .int .i64 f, .int .i64 g], .int .i64 x] w fun r w' => r = .returned (.tuple #[.int .i64 0, .int .i64 10]) ∧ Below w.heap.size w w' := by
  have h1 : 1 ≤ b := h.2.1.1
  have h2 : b ≤ 16 := h.2.1.2
  have H := hide h
  clear h
  go_enter Try.func14, Try.ntmps14
  go_wp2_with fail
  refine (lines_yes _ _ _ _ _ _ _ H.out _).mono ?_
  rintro r w1 ⟨rfl, hb⟩
  have hb' := below_alloc hb
  clear hb
  go_wp2_with fail
  refine (within_no _ _ (by omega) _).mono ?_
  rintro r w2 ⟨rfl, rfl⟩
  go_wp2
  go_ret2
  exact ⟨rfl, hb'⟩
theorem granule_bad (a b c d e f g x : Int) (h : ¬ Ok a b c d e f g) (w : World) : Calls Try.prog 14 #[.agg #[.int .i64 a, .int .i64 b, .int .i64 c, .int .i64 d, .int .i64 e, .int .i64 f, .int .i64 g], .int .i64 x] w fun r w' => r = .returned (.tuple #[.int .i64 0, .int .i64 10]) ∧ Below w.heap.size w w' := by
  have H := hide h
  clear h
  go_enter Try.func14, Try.ntmps14
  go_wp2_with fail
  refine (lines_no _ _ _ _ _ _ _ H.out _).mono ?_
  rintro r w1 ⟨rfl, hb⟩
  have hb' := below_alloc hb
  clear hb
  go_wp2_with fail
  refine (within_no _ _ (by omega) _).mono ?_
  rintro r w2 ⟨rfl, rfl⟩
  go_wp2
  go_ret2
  exact ⟨rfl, hb'⟩
theorem bank_yes (a b c d e f g x : Int) (h : Ok a b c d e f g) (hx : 0 ≤ x) (hx2 : x < b * 2) (w : World) : Calls Try.prog 15 #[.agg #[.int .i64 a, .int .i64 b, .int .i64 c, .int .i64 d, .int .i64 e, .int .i64 f, .int .i64 g], .int .i64 x] w fun r w' => r = .returned (.tuple #[.int .i64 (x % g), .int .i64 0]) ∧ Below w.heap.size w w' := by
  have h1 : 1 ≤ b := h.2.1.1
  have h2 : b ≤ 16 := h.2.1.2
  have h3 : 1 ≤ g := h.2.2.2.2.2.2.1
  have h4 : g ≤ 4 := h.2.2.2.2.2.2.2
  have H := hide h
  clear h
  go_enter Try.func15, Try.ntmps15
  go_wp2_with fail
  refine (lines_yes _ _ _ _ _ _ _ H.out _).mono ?_
  rintro r w1 ⟨rfl, hb⟩
  obtain ⟨q, c0, c1, c2, c3, c4, c5, c6⟩ := (Box.new w a b c d e f g 23).next hb
  have hb' := below_alloc hb
  clear hb
  go_wp2_with fail
  refine (within_yes _ _ (by omega) (by omega) _).mono ?_
  rintro r w2 ⟨rfl, rfl⟩
  go_wp2
  go_ret2
  exact ⟨rfl, hb'⟩
theorem bank_no (a b c d e f g x : Int) (h : Ok a b c d e f g) (hx : ¬ (0 ≤ x ∧ x < b * 2)) (w : World) : Calls Try.prog 15 #[.agg #[.int .i64 a, .int .i64 b, .int .i64 c, .int .i64 d, .int .i64 e, .int .i64 f, .int .i64 g], .int .i64 x] w fun r w' => r = .returned (.tuple #[.int .i64 0, .int .i64 10]) ∧ Below w.heap.size w w' := by
  have h1 : 1 ≤ b := h.2.1.1
  have h2 : b ≤ 16 := h.2.1.2
  have H := hide h
  clear h
  go_enter Try.func15, Try.ntmps15
  go_wp2_with fail
  refine (lines_yes _ _ _ _ _ _ _ H.out _).mono ?_
  rintro r w1 ⟨rfl, hb⟩
  have hb' := below_alloc hb
  clear hb
  go_wp2_with fail
  refine (within_no _ _ (by omega) _).mono ?_
  rintro r w2 ⟨rfl, rfl⟩
  go_wp2
  go_ret2
  exact ⟨rfl, hb'⟩
theorem bank_bad (a b c d e f g x : Int) (h : ¬ Ok a b c d e f g) (w : World) : Calls Try.prog 15 #[.agg #[.int .i64 a, .int .i64 b, .int .i64 c, .int .i64 d, .int .i64 e, .int .i64 f, .int .i64 g], .int .i64 x] w fun r w' => r = .returned (.tuple #[.int .i64 0, .int .i64 10]) ∧ Below w.heap.size w w' := by
  have H := hide h
  clear h
  go_enter Try.func15, Try.ntmps15
  go_wp2_with fail
  refine (lines_no _ _ _ _ _ _ _ H.out _).mono ?_
  rintro r w1 ⟨rfl, hb⟩
  have hb' := below_alloc hb
  clear hb
  go_wp2_with fail
  refine (within_no _ _ (by omega) _).mono ?_
  rintro r w2 ⟨rfl, rfl⟩
  go_wp2
  go_ret2
  exact ⟨rfl, hb'⟩
theorem word_yes (a b c d e f g x y : Int) (h : Ok a b c d e f g) (hx : 0 ≤ x) (hx2 : x < b * 2) (hy : 0 ≤ y) (hy2 : y < 2) (w : World) : Calls Try.prog 13 #[.agg #[.int .i64 a, .int .i64 b, .int .i64 c, .int .i64 d, .int .i64 e, .int .i64 f, .int .i64 g], .int .i64 x, .int .i64 y] w fun r w' => r = .returned (.tuple #[.int .i64 (x * 2 + y), .int .i64 0]) ∧ Below w.heap.size w w' := by
  have h1 : 1 ≤ b := h.2.1.1
  have h2 : b ≤ 16 := h.2.1.2
  have h3 : 1 ≤ g := h.2.2.2.2.2.2.1
  have h4 : g ≤ 4 := h.2.2.2.2.2.2.2
  have H := hide h
  clear h
  go_enter Try.func13, Try.ntmps13
  go_wp2_with fail
  refine (lines_yes _ _ _ _ _ _ _ H.out _).mono ?_
  rintro r w1 ⟨rfl, hb⟩
  obtain ⟨q, c0, c1, c2, c3, c4, c5, c6⟩ := (Box.new w a b c d e f g 23).next hb
  have hb' := below_alloc hb
  clear hb
  go_wp2_with fail
  refine (within_yes _ _ (by omega) (by omega) _).mono ?_
  rintro r w2 ⟨rfl, rfl⟩
  go_wp2_with fail
  refine (within_yes _ _ (by omega) (by omega) _).mono ?_
  rintro r w3 ⟨rfl, rfl⟩
  go_wp2
  go_ret2
  exact ⟨rfl, hb'⟩
theorem word_no (a b c d e f g x y : Int) (h : Ok a b c d e f g) (hx : ¬ (0 ≤ x ∧ x < b * 2)) (w : World) : Calls Try.prog 13 #[.agg #[.int .i64 a, .int .i64 b, .int .i64 c, .int .i64 d, .int .i64 e, .int .i64 f, .int .i64 g], .int .i64 x, .int .i64 y] w fun r w' => r = .returned (.tuple #[.int .i64 0, .int .i64 10]) ∧ Below w.heap.size w w' := by
  have h1 : 1 ≤ b := h.2.1.1
  have h2 : b ≤ 16 := h.2.1.2
  have H := hide h
  clear h
  go_enter Try.func13, Try.ntmps13
  go_wp2_with fail
  refine (lines_yes _ _ _ _ _ _ _ H.out _).mono ?_
  rintro r w1 ⟨rfl, hb⟩
  have hb' := below_alloc hb
  clear hb
  go_wp2_with fail
  refine (within_no _ _ (by omega) _).mono ?_
  rintro r w2 ⟨rfl, rfl⟩
  go_wp2
  go_ret2
  exact ⟨rfl, hb'⟩
theorem word_bad (a b c d e f g x y : Int) (h : ¬ Ok a b c d e f g) (w : World) : Calls Try.prog 13 #[.agg #[.int .i64 a, .int .i64 b, .int .i64 c, .int .i64 d, .int .i64 e, .int .i64 f, .int .i64 g], .int .i64 x, .int .i64 y] w fun r w' => r = .returned (.tuple #[.int .i64 0, .int .i64 10]) ∧ Below w.heap.size w w' := by
  have H := hide h
  clear h
  go_enter Try.func13, Try.ntmps13
  go_wp2_with fail
  refine (lines_no _ _ _ _ _ _ _ H.out _).mono ?_
  rintro r w1 ⟨rfl, hb⟩
  have hb' := below_alloc hb
  clear hb
  go_wp2_with fail
  refine (within_no _ _ (by omega) _).mono ?_
  rintro r w2 ⟨rfl, rfl⟩
  go_wp2
  go_ret2
  exact ⟨rfl, hb'⟩
theorem word_out (a b c d e f g x y : Int) (h : Ok a b c d e f g) (hx : 0 ≤ x) (hx2 : x < b * 2) (hy : ¬ (0 ≤ y ∧ y < 2)) (w : World) : Calls Try.prog 13 #[.agg #[.int .i64 a, .int .i64 b, .int .i64 c, .int .i64 d, .int .i64 e, .int .i64 f, .int .i64 g], .int .i64 x, .int .i64 y] w fun r w' => r = .returned (.tuple #[.int .i64 0, .int .i64 10]) ∧ Below w.heap.size w w' := by
  have h1 : 1 ≤ b := h.2.1.1
  have h2 : b ≤ 16 := h.2.1.2
  have H := hide h
  clear h
  have HY := hide hy
  clear hy
  go_enter Try.func13, Try.ntmps13
  go_wp2_with fail
  refine (lines_yes _ _ _ _ _ _ _ H.out _).mono ?_
  rintro r w1 ⟨rfl, hb⟩
  have hb' := below_alloc hb
  clear hb
  go_wp2_with fail
  refine (within_yes _ _ (by omega) (by omega) _).mono ?_
  rintro r w2 ⟨rfl, rfl⟩
  go_wp2_with fail
  refine (within_no _ _ HY.out _).mono ?_
  rintro r w3 ⟨rfl, rfl⟩
  go_wp2
  go_ret2
  exact ⟨rfl, hb'⟩
end Go.Proofs.Ytgdbjkkhmamdmaa
