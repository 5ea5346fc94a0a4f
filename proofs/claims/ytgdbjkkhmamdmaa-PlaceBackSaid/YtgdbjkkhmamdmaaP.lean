/- The laws, walked: PlaceChecks. -/
import Derived.Test.YtgdbjkkhmamdmaaE
import Derived.Test.YtgdbjkkhmamdmaaM
import Derived.WalkKit
import Derived.WalkSpells
import Derived.ProofKit
import Derived.Outline
import Derived.Handy
import Derived.RowKit3
import Derived.Deep.RegionHeld3
import Derived.IntWalk
import Derived.BigQuiet
import Derived.Deep.QuietTactic
namespace Go.Proofs.Ytgdbjkkhmamdmaa
open Go.RowKit
set_option maxRecDepth 100000

theorem keep_box {w0 W w' : World} {p : Nat} {a b c d e f g : Int} (q : p < W.heap.size) (c0 : W.cell? ⟨p, 0, none⟩ = some (.int .i64 a)) (c1 : W.cell? ⟨p, 1, none⟩ = some (.int .i64 b)) (c2 : W.cell? ⟨p, 2, none⟩ = some (.int .i64 c)) (c3 : W.cell? ⟨p, 3, none⟩ = some (.int .i64 d)) (c4 : W.cell? ⟨p, 4, none⟩ = some (.int .i64 e)) (c5 : W.cell? ⟨p, 5, none⟩ = some (.int .i64 f)) (c6 : W.cell? ⟨p, 6, none⟩ = some (.int .i64 g)) (k : Below w0.heap.size w0 W) (hb : Below W.heap.size W w') :
    p < w'.heap.size ∧ w'.cell? ⟨p, 0, none⟩ = some (.int .i64 a) ∧ w'.cell? ⟨p, 1, none⟩ = some (.int .i64 b) ∧ w'.cell? ⟨p, 2, none⟩ = some (.int .i64 c) ∧ w'.cell? ⟨p, 3, none⟩ = some (.int .i64 d) ∧ w'.cell? ⟨p, 4, none⟩ = some (.int .i64 e) ∧ w'.cell? ⟨p, 5, none⟩ = some (.int .i64 f) ∧ w'.cell? ⟨p, 6, none⟩ = some (.int .i64 g) ∧ Below w0.heap.size w0 w' :=
  ⟨Nat.lt_of_lt_of_le q hb.size, cell_next hb q c0, cell_next hb q c1, cell_next hb q c2, cell_next hb q c3, cell_next hb q c4, cell_next hb q c5, cell_next hb q c6, k.trans (hb.mono k.size)⟩
theorem keep_s {w0 W w' : World} {p : Nat} {a b c d e f g : Int} (h : p < W.heap.size ∧ W.cell? ⟨p, 0, none⟩ = some (.int .i64 a) ∧ W.cell? ⟨p, 1, none⟩ = some (.int .i64 b) ∧ W.cell? ⟨p, 2, none⟩ = some (.int .i64 c) ∧ W.cell? ⟨p, 3, none⟩ = some (.int .i64 d) ∧ W.cell? ⟨p, 4, none⟩ = some (.int .i64 e) ∧ W.cell? ⟨p, 5, none⟩ = some (.int .i64 f) ∧ W.cell? ⟨p, 6, none⟩ = some (.int .i64 g) ∧ Below w0.heap.size w0 W) (hb : Below W.heap.size W w') :
    p < w'.heap.size ∧ w'.cell? ⟨p, 0, none⟩ = some (.int .i64 a) ∧ w'.cell? ⟨p, 1, none⟩ = some (.int .i64 b) ∧ w'.cell? ⟨p, 2, none⟩ = some (.int .i64 c) ∧ w'.cell? ⟨p, 3, none⟩ = some (.int .i64 d) ∧ w'.cell? ⟨p, 4, none⟩ = some (.int .i64 e) ∧ w'.cell? ⟨p, 5, none⟩ = some (.int .i64 f) ∧ w'.cell? ⟨p, 6, none⟩ = some (.int .i64 g) ∧ Below w0.heap.size w0 w' := by
  obtain ⟨q, c0, c1, c2, c3, c4, c5, c6, k⟩ := h
  exact keep_box q c0 c1 c2 c3 c4 c5 c6 k hb
theorem s_below {w0 W : World} {p : Nat} {a b c d e f g : Int} (h : p < W.heap.size ∧ W.cell? ⟨p, 0, none⟩ = some (.int .i64 a) ∧ W.cell? ⟨p, 1, none⟩ = some (.int .i64 b) ∧ W.cell? ⟨p, 2, none⟩ = some (.int .i64 c) ∧ W.cell? ⟨p, 3, none⟩ = some (.int .i64 d) ∧ W.cell? ⟨p, 4, none⟩ = some (.int .i64 e) ∧ W.cell? ⟨p, 5, none⟩ = some (.int .i64 f) ∧ W.cell? ⟨p, 6, none⟩ = some (.int .i64 g) ∧ Below w0.heap.size w0 W) : Below w0.heap.size w0 W :=
  h.2.2.2.2.2.2.2.2
set_option maxHeartbeats 2000000 in
theorem checks_yes (a b c d e f g : Int) (h : Ok a b c d e f g) (w : World) : Calls Try.prog 3 #[.agg #[.int .i64 a, .int .i64 b, .int .i64 c, .int .i64 d, .int .i64 e, .int .i64 f, .int .i64 g]] w fun r w' => r = .returned (.bool true) ∧ Below w.heap.size w w' := by
  have h1 : 1 ≤ b := h.2.1.1
  have h2 : b ≤ 16 := h.2.1.2
  have e1 : (b * 2 * 2 == IntKind.i64.wrap (4 * b)) = true := by rw [IntWalk.i64_in _ (by omega)]; simp; omega
  have e2 : (b * 2 == IntKind.i64.wrap (2 * b)) = true := by rw [IntWalk.i64_in _ (by omega)]; simp; omega
  have H := hide h
  clear h
  go_enter Try.func3, Try.ntmps3
  go_wp2_with fail
  refine (may_yes _ _ _ _ _ _ _ H.out _).mono ?_
  rintro r w1 ⟨rfl, hb⟩
  obtain ⟨q, c0, c1, c2, c3, c4, c5, c6⟩ := (Box.new w a b c d e f g 23).next hb
  have k := below_alloc hb
  clear hb
  go_wp2_with fail
  go_region_held3 (fun w' => w.heap.size < w'.heap.size ∧ w'.cell? ⟨w.heap.size, 0, none⟩ = some (.int .i64 a) ∧ w'.cell? ⟨w.heap.size, 1, none⟩ = some (.int .i64 b) ∧ w'.cell? ⟨w.heap.size, 2, none⟩ = some (.int .i64 c) ∧ w'.cell? ⟨w.heap.size, 3, none⟩ = some (.int .i64 d) ∧ w'.cell? ⟨w.heap.size, 4, none⟩ = some (.int .i64 e) ∧ w'.cell? ⟨w.heap.size, 5, none⟩ = some (.int .i64 f) ∧ w'.cell? ⟨w.heap.size, 6, none⟩ = some (.int .i64 g) ∧ Below w.heap.size w w')
    (first | assumption | exact keep_s (by assumption) hb | exact ⟨q, c0, c1, c2, c3, c4, c5, c6, k⟩ | exact ⟨q, c0, c1, c2, c3, c4, c5, c6, k.drew⟩)
    (first
      | (go_at_call 8; refine (check_yes _ _ _ _ _ _ _ H.out _).mono ?_; rintro r w' ⟨rfl, hb⟩)
      | (go_at_call 9; refine (words_yes _ _ _ _ _ _ _ H.out _).mono ?_; rintro r w' ⟨rfl, hb⟩)
      | (go_at_call 10; refine (lines_yes _ _ _ _ _ _ _ H.out _).mono ?_; rintro r w' ⟨rfl, hb⟩)
      | (go_at_call 11; refine (awake_ok _).mono ?_; rintro r w' ⟨rfl, hb⟩))
  go_wp2
  go_ret
  exact ⟨rfl, s_below (by assumption)⟩
theorem checks_no (a b c d e f g : Int) (h : ¬ Ok a b c d e f g) (w : World) : Calls Try.prog 3 #[.agg #[.int .i64 a, .int .i64 b, .int .i64 c, .int .i64 d, .int .i64 e, .int .i64 f, .int .i64 g]] w fun r w' => r = .returned (.bool true) ∧ Below w.heap.size w w' := by
  have H := hide h
  clear h
  go_enter Try.func3, Try.ntmps3
  go_wp2_with fail
  refine (may_no _ _ _ _ _ _ _ H.out _).mono ?_
  rintro r w1 ⟨rfl, hb⟩
  obtain ⟨q, c0, c1, c2, c3, c4, c5, c6⟩ := (Box.new w a b c d e f g 23).next hb
  have k := below_alloc hb
  clear hb
  go_wp2_with fail
  refine (check_no _ _ _ _ _ _ _ H.out _).mono ?_
  rintro r w2 ⟨rfl, hb⟩
  obtain ⟨q, c0, c1, c2, c3, c4, c5, c6, k⟩ := keep_box q c0 c1 c2 c3 c4 c5 c6 k hb
  clear hb
  go_wp2_with fail
  refine (words_no _ _ _ _ _ _ _ H.out _).mono ?_
  rintro r w3 ⟨rfl, hb⟩
  obtain ⟨q, c0, c1, c2, c3, c4, c5, c6, k⟩ := keep_box q c0 c1 c2 c3 c4 c5 c6 k hb
  clear hb
  go_wp2_with fail
  refine (lines_no _ _ _ _ _ _ _ H.out _).mono ?_
  rintro r w4 ⟨rfl, hb⟩
  obtain ⟨q, c0, c1, c2, c3, c4, c5, c6, k⟩ := keep_box q c0 c1 c2 c3 c4 c5 c6 k hb
  clear hb
  go_wp2_with fail
  refine (awake_ok _).mono ?_
  rintro r w5 ⟨rfl, hb⟩
  have k' := below_step k k.size hb
  clear hb k
  go_wp2
  go_ret
  exact ⟨rfl, k'⟩
end Go.Proofs.Ytgdbjkkhmamdmaa
