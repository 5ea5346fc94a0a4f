/- PlaceFinds, walked. -/
import Derived.Test.YtgdbjkkhmamdmaaP
import Derived.Test.YtgdbjkkhmamdmaaR
import Derived.WalkKit
import Derived.WalkSpells
import Derived.ProofKit
import Derived.Outline
import Derived.Handy
import Derived.RowKit3
import Derived.IntWalk
import Derived.BigQuiet
import Derived.Deep.QuietTactic
namespace Go.Proofs.Ytgdbjkkhmamdmaa
open Go.RowKit
set_option maxRecDepth 100000

/-- What the walk of PlaceFinds holds on to: the two boxes, and that nothing that was there has turned. -/
def Kept (w0 W : World) (p q : Nat) (a b c d e f g y0 y1 : Int) : Prop := p < W.heap.size ∧ q < W.heap.size ∧ W.cell? ⟨p, 0, none⟩ = some (.int .i64 a) ∧ W.cell? ⟨p, 1, none⟩ = some (.int .i64 b) ∧ W.cell? ⟨p, 2, none⟩ = some (.int .i64 c) ∧ W.cell? ⟨p, 3, none⟩ = some (.int .i64 d) ∧ W.cell? ⟨p, 4, none⟩ = some (.int .i64 e) ∧ W.cell? ⟨p, 5, none⟩ = some (.int .i64 f) ∧ W.cell? ⟨p, 6, none⟩ = some (.int .i64 g) ∧ W.cell? ⟨q, 0, none⟩ = some (.int .i64 y0) ∧ W.cell? ⟨q, 1, none⟩ = some (.int .i64 y1) ∧ Below w0.heap.size w0 W
theorem Kept.next {w0 W W' : World} {p q : Nat} {a b c d e f g y0 y1 : Int} (h : Kept w0 W p q a b c d e f g y0 y1) (hb : Below W.heap.size W W') : Kept w0 W' p q a b c d e f g y0 y1 := by
  obtain ⟨hp, hq, c0, c1, c2, c3, c4, c5, c6, d0, d1, k⟩ := h
  exact ⟨Nat.lt_of_lt_of_le hp hb.size, Nat.lt_of_lt_of_le hq hb.size, cell_next hb hp c0, cell_next hb hp c1, cell_next hb hp c2, cell_next hb hp c3, cell_next hb hp c4, cell_next hb hp c5, cell_next hb hp c6, cell_next hb hq d0, cell_next hb hq d1, k.trans (hb.mono k.size)⟩
theorem Kept.new (w : World) (a b c d e f g y0 y1 : Int) : Kept w ((w.alloc (.cells #[.int .i64 a, .int .i64 b, .int .i64 c, .int .i64 d, .int .i64 e, .int .i64 f, .int .i64 g] 23)).alloc (.cells #[.int .i64 y0, .int .i64 y1] 29)) w.heap.size (w.heap.size + 1) a b c d e f g y0 y1 := by
  have K : Below w.heap.size w ((w.alloc (.cells #[.int .i64 a, .int .i64 b, .int .i64 c, .int .i64 d, .int .i64 e, .int .i64 f, .int .i64 g] 23)).alloc (.cells #[.int .i64 y0, .int .i64 y1] 29)) := ((Below.refl _ _).alloc (Nat.le_refl _) _).alloc (by simp) _
  refine ⟨by simp; omega, by simp, ?_, ?_, ?_, ?_, ?_, ?_, ?_, ?_, ?_, K⟩ <;> simp [go_sem]
theorem unhide {p : Prop} (h : Hid p) : p := h

set_option maxHeartbeats 2000000 in
theorem finds_bad (a b c d e f g x y0 y1 : Int) (h : ¬ Ok a b c d e f g) (w : World) : Calls Try.prog 4 #[.agg #[.int .i64 a, .int .i64 b, .int .i64 c, .int .i64 d, .int .i64 e, .int .i64 f, .int .i64 g], .int .i64 x, .agg #[.int .i64 y0, .int .i64 y1]] w fun r w' => r = .returned (.bool true) ∧ Below w.heap.size w w' := by
  have H := hide h
  clear h
  have KK := hide (Kept.new w a b c d e f g y0 y1)
  go_enter Try.func4, Try.ntmps4
  go_wp2_with fail
  refine (line_bad _ _ _ _ _ _ _ _ H.out _).mono ?_
  rintro r w1 ⟨rfl, hb⟩
  have KK := hide ((unhide KK).next hb)
  obtain ⟨hp, hq, c0, c1, c2, c3, c4, c5, c6, d0, d1, k⟩ := unhide KK
  clear hb
  go_wp2_with fail
  clear hp hq c0 c1 c2 c3 c4 c5 c6 d0 d1 k
  refine (word_bad _ _ _ _ _ _ _ _ _ H.out _).mono ?_
  rintro r w1 ⟨rfl, hb⟩
  have KK := hide ((unhide KK).next hb)
  obtain ⟨hp, hq, c0, c1, c2, c3, c4, c5, c6, d0, d1, k⟩ := unhide KK
  clear hb
  go_wp2_with fail
  clear hp hq c0 c1 c2 c3 c4 c5 c6 d0 d1 k
  refine (granule_bad _ _ _ _ _ _ _ _ H.out _).mono ?_
  rintro r w1 ⟨rfl, hb⟩
  have KK := hide ((unhide KK).next hb)
  obtain ⟨hp, hq, c0, c1, c2, c3, c4, c5, c6, d0, d1, k⟩ := unhide KK
  clear hb
  go_wp2_with fail
  clear hp hq c0 c1 c2 c3 c4 c5 c6 d0 d1 k
  refine (bank_bad _ _ _ _ _ _ _ _ H.out _).mono ?_
  rintro r w1 ⟨rfl, hb⟩
  have KK := hide ((unhide KK).next hb)
  obtain ⟨hp, hq, c0, c1, c2, c3, c4, c5, c6, d0, d1, k⟩ := unhide KK
  clear hb
  go_wp2_with fail
  clear hp hq c0 c1 c2 c3 c4 c5 c6 d0 d1 k
  refine (may_no _ _ _ _ _ _ _ H.out _).mono ?_
  rintro r w1 ⟨rfl, hb⟩
  have KK := hide ((unhide KK).next hb)
  obtain ⟨hp, hq, c0, c1, c2, c3, c4, c5, c6, d0, d1, k⟩ := unhide KK
  clear hb
  go_wp2_with fail
  clear hp hq c0 c1 c2 c3 c4 c5 c6 d0 d1 k
  refine (awake_ok _).mono ?_
  rintro r w1 ⟨rfl, hb⟩
  have KK := hide ((unhide KK).next hb)
  obtain ⟨hp, hq, c0, c1, c2, c3, c4, c5, c6, d0, d1, k⟩ := unhide KK
  clear hb
  go_wp2
  go_ret
  exact ⟨rfl, k⟩

set_option maxHeartbeats 2000000 in
theorem finds_xy_ly (a b c d e f g x y0 y1 : Int) (h : Ok a b c d e f g) (hx : 0 ≤ x) (hx2 : x < b * 2 * 2) (hl : 0 ≤ y0) (hl2 : y0 < b * 2) (ha : 0 ≤ y1) (ha2 : y1 < 2) (w : World) : Calls Try.prog 4 #[.agg #[.int .i64 a, .int .i64 b, .int .i64 c, .int .i64 d, .int .i64 e, .int .i64 f, .int .i64 g], .int .i64 x, .agg #[.int .i64 y0, .int .i64 y1]] w fun r w' => r = .returned (.bool true) ∧ Below w.heap.size w w' := by
  have h1 : 1 ≤ b := h.2.1.1
  have h2 : b ≤ 16 := h.2.1.2
  have h3 : 1 ≤ g := h.2.2.2.2.2.2.1
  have h4 : g ≤ 4 := h.2.2.2.2.2.2.2
  have H := hide h
  clear h
  have e1 : (y0 * 2 + y1 == 2 * y0 + y1) = true := by simp; omega
  have KK := hide (Kept.new w a b c d e f g y0 y1)
  go_enter Try.func4, Try.ntmps4
  go_wp2_with fail
  refine (line_yes _ _ _ _ _ _ _ _ H.out hx hx2 _).mono ?_
  rintro r w1 ⟨rfl, hb⟩
  have KK := hide ((unhide KK).next hb)
  obtain ⟨hp, hq, c0, c1, c2, c3, c4, c5, c6, d0, d1, k⟩ := unhide KK
  clear hb
  go_wp2_with fail
  clear hp hq c0 c1 c2 c3 c4 c5 c6 d0 d1 k
  refine (word_yes _ _ _ _ _ _ _ _ _ H.out hl hl2 ha ha2 _).mono ?_
  rintro r w1 ⟨rfl, hb⟩
  have KK := hide ((unhide KK).next hb)
  obtain ⟨hp, hq, c0, c1, c2, c3, c4, c5, c6, d0, d1, k⟩ := unhide KK
  clear hb
  go_wp2_with fail
  clear hp hq c0 c1 c2 c3 c4 c5 c6 d0 d1 k
  refine (granule_yes _ _ _ _ _ _ _ _ H.out hl hl2 _).mono ?_
  rintro r w1 ⟨rfl, hb⟩
  have KK := hide ((unhide KK).next hb)
  obtain ⟨hp, hq, c0, c1, c2, c3, c4, c5, c6, d0, d1, k⟩ := unhide KK
  clear hb
  go_wp2_with fail
  clear hp hq c0 c1 c2 c3 c4 c5 c6 d0 d1 k
  refine (bank_yes _ _ _ _ _ _ _ _ H.out hl hl2 _).mono ?_
  rintro r w1 ⟨rfl, hb⟩
  have KK := hide ((unhide KK).next hb)
  obtain ⟨hp, hq, c0, c1, c2, c3, c4, c5, c6, d0, d1, k⟩ := unhide KK
  clear hb
  go_wp2_with fail
  clear hp hq c0 c1 c2 c3 c4 c5 c6 d0 d1 k
  refine (may_yes _ _ _ _ _ _ _ H.out _).mono ?_
  rintro r w1 ⟨rfl, hb⟩
  have KK := hide ((unhide KK).next hb)
  obtain ⟨hp, hq, c0, c1, c2, c3, c4, c5, c6, d0, d1, k⟩ := unhide KK
  clear hb
  go_wp2_with fail
  refine (of_yes _ _ h1 h2 hx hx2 _).mono ?_
  rintro r w1 ⟨rfl, rfl⟩
  go_wp2_with fail
  refine (rgran_yes _ _ h1 h2 hl hl2 _).mono ?_
  rintro r w1 ⟨rfl, rfl⟩
  go_wp2_with fail
  clear hp hq c0 c1 c2 c3 c4 c5 c6 d0 d1 k
  refine (awake_ok _).mono ?_
  rintro r w1 ⟨rfl, hb⟩
  have KK := hide ((unhide KK).next hb)
  obtain ⟨hp, hq, c0, c1, c2, c3, c4, c5, c6, d0, d1, k⟩ := unhide KK
  clear hb
  go_wp2
  go_ret
  exact ⟨rfl, k⟩

set_option maxHeartbeats 2000000 in
theorem finds_xy_lo1 (a b c d e f g x y0 y1 : Int) (h : Ok a b c d e f g) (hx : 0 ≤ x) (hx2 : x < b * 2 * 2) (hl : 0 ≤ y0) (hl2 : y0 < b * 2) (ha : y1 < 0) (w : World) : Calls Try.prog 4 #[.agg #[.int .i64 a, .int .i64 b, .int .i64 c, .int .i64 d, .int .i64 e, .int .i64 f, .int .i64 g], .int .i64 x, .agg #[.int .i64 y0, .int .i64 y1]] w fun r w' => r = .returned (.bool true) ∧ Below w.heap.size w w' := by
  have h1 : 1 ≤ b := h.2.1.1
  have h2 : b ≤ 16 := h.2.1.2
  have h3 : 1 ≤ g := h.2.2.2.2.2.2.1
  have h4 : g ≤ 4 := h.2.2.2.2.2.2.2
  have H := hide h
  clear h
  have KK := hide (Kept.new w a b c d e f g y0 y1)
  go_enter Try.func4, Try.ntmps4
  go_wp2_with fail
  refine (line_yes _ _ _ _ _ _ _ _ H.out hx hx2 _).mono ?_
  rintro r w1 ⟨rfl, hb⟩
  have KK := hide ((unhide KK).next hb)
  obtain ⟨hp, hq, c0, c1, c2, c3, c4, c5, c6, d0, d1, k⟩ := unhide KK
  clear hb
  go_wp2_with fail
  clear hp hq c0 c1 c2 c3 c4 c5 c6 d0 d1 k
  refine (word_out _ _ _ _ _ _ _ _ _ H.out hl hl2 (by omega) _).mono ?_
  rintro r w1 ⟨rfl, hb⟩
  have KK := hide ((unhide KK).next hb)
  obtain ⟨hp, hq, c0, c1, c2, c3, c4, c5, c6, d0, d1, k⟩ := unhide KK
  clear hb
  go_wp2_with fail
  clear hp hq c0 c1 c2 c3 c4 c5 c6 d0 d1 k
  refine (granule_yes _ _ _ _ _ _ _ _ H.out hl hl2 _).mono ?_
  rintro r w1 ⟨rfl, hb⟩
  have KK := hide ((unhide KK).next hb)
  obtain ⟨hp, hq, c0, c1, c2, c3, c4, c5, c6, d0, d1, k⟩ := unhide KK
  clear hb
  go_wp2_with fail
  clear hp hq c0 c1 c2 c3 c4 c5 c6 d0 d1 k
  refine (bank_yes _ _ _ _ _ _ _ _ H.out hl hl2 _).mono ?_
  rintro r w1 ⟨rfl, hb⟩
  have KK := hide ((unhide KK).next hb)
  obtain ⟨hp, hq, c0, c1, c2, c3, c4, c5, c6, d0, d1, k⟩ := unhide KK
  clear hb
  go_wp2_with fail
  clear hp hq c0 c1 c2 c3 c4 c5 c6 d0 d1 k
  refine (may_yes _ _ _ _ _ _ _ H.out _).mono ?_
  rintro r w1 ⟨rfl, hb⟩
  have KK := hide ((unhide KK).next hb)
  obtain ⟨hp, hq, c0, c1, c2, c3, c4, c5, c6, d0, d1, k⟩ := unhide KK
  clear hb
  go_wp2_with fail
  refine (of_yes _ _ h1 h2 hx hx2 _).mono ?_
  rintro r w1 ⟨rfl, rfl⟩
  go_wp2_with fail
  refine (rgran_yes _ _ h1 h2 hl hl2 _).mono ?_
  rintro r w1 ⟨rfl, rfl⟩
  go_wp2_with fail
  clear hp hq c0 c1 c2 c3 c4 c5 c6 d0 d1 k
  refine (awake_ok _).mono ?_
  rintro r w1 ⟨rfl, hb⟩
  have KK := hide ((unhide KK).next hb)
  obtain ⟨hp, hq, c0, c1, c2, c3, c4, c5, c6, d0, d1, k⟩ := unhide KK
  clear hb
  go_wp2
  go_ret
  exact ⟨rfl, k⟩

set_option maxHeartbeats 2000000 in
theorem finds_xy_lo2 (a b c d e f g x y0 y1 : Int) (h : Ok a b c d e f g) (hx : 0 ≤ x) (hx2 : x < b * 2 * 2) (hl : 0 ≤ y0) (hl2 : y0 < b * 2) (ha : 2 ≤ y1) (w : World) : Calls Try.prog 4 #[.agg #[.int .i64 a, .int .i64 b, .int .i64 c, .int .i64 d, .int .i64 e, .int .i64 f, .int .i64 g], .int .i64 x, .agg #[.int .i64 y0, .int .i64 y1]] w fun r w' => r = .returned (.bool true) ∧ Below w.heap.size w w' := by
  have h1 : 1 ≤ b := h.2.1.1
  have h2 : b ≤ 16 := h.2.1.2
  have h3 : 1 ≤ g := h.2.2.2.2.2.2.1
  have h4 : g ≤ 4 := h.2.2.2.2.2.2.2
  have H := hide h
  clear h
  have KK := hide (Kept.new w a b c d e f g y0 y1)
  go_enter Try.func4, Try.ntmps4
  go_wp2_with fail
  refine (line_yes _ _ _ _ _ _ _ _ H.out hx hx2 _).mono ?_
  rintro r w1 ⟨rfl, hb⟩
  have KK := hide ((unhide KK).next hb)
  obtain ⟨hp, hq, c0, c1, c2, c3, c4, c5, c6, d0, d1, k⟩ := unhide KK
  clear hb
  go_wp2_with fail
  clear hp hq c0 c1 c2 c3 c4 c5 c6 d0 d1 k
  refine (word_out _ _ _ _ _ _ _ _ _ H.out hl hl2 (by omega) _).mono ?_
  rintro r w1 ⟨rfl, hb⟩
  have KK := hide ((unhide KK).next hb)
  obtain ⟨hp, hq, c0, c1, c2, c3, c4, c5, c6, d0, d1, k⟩ := unhide KK
  clear hb
  go_wp2_with fail
  clear hp hq c0 c1 c2 c3 c4 c5 c6 d0 d1 k
  refine (granule_yes _ _ _ _ _ _ _ _ H.out hl hl2 _).mono ?_
  rintro r w1 ⟨rfl, hb⟩
  have KK := hide ((unhide KK).next hb)
  obtain ⟨hp, hq, c0, c1, c2, c3, c4, c5, c6, d0, d1, k⟩ := unhide KK
  clear hb
  go_wp2_with fail
  clear hp hq c0 c1 c2 c3 c4 c5 c6 d0 d1 k
  refine (bank_yes _ _ _ _ _ _ _ _ H.out hl hl2 _).mono ?_
  rintro r w1 ⟨rfl, hb⟩
  have KK := hide ((unhide KK).next hb)
  obtain ⟨hp, hq, c0, c1, c2, c3, c4, c5, c6, d0, d1, k⟩ := unhide KK
  clear hb
  go_wp2_with fail
  clear hp hq c0 c1 c2 c3 c4 c5 c6 d0 d1 k
  refine (may_yes _ _ _ _ _ _ _ H.out _).mono ?_
  rintro r w1 ⟨rfl, hb⟩
  have KK := hide ((unhide KK).next hb)
  obtain ⟨hp, hq, c0, c1, c2, c3, c4, c5, c6, d0, d1, k⟩ := unhide KK
  clear hb
  go_wp2_with fail
  refine (of_yes _ _ h1 h2 hx hx2 _).mono ?_
  rintro r w1 ⟨rfl, rfl⟩
  go_wp2_with fail
  refine (rgran_yes _ _ h1 h2 hl hl2 _).mono ?_
  rintro r w1 ⟨rfl, rfl⟩
  go_wp2_with fail
  clear hp hq c0 c1 c2 c3 c4 c5 c6 d0 d1 k
  refine (awake_ok _).mono ?_
  rintro r w1 ⟨rfl, hb⟩
  have KK := hide ((unhide KK).next hb)
  obtain ⟨hp, hq, c0, c1, c2, c3, c4, c5, c6, d0, d1, k⟩ := unhide KK
  clear hb
  go_wp2
  go_ret
  exact ⟨rfl, k⟩

set_option maxHeartbeats 2000000 in
theorem finds_xy_ln (a b c d e f g x y0 y1 : Int) (h : Ok a b c d e f g) (hx : 0 ≤ x) (hx2 : x < b * 2 * 2) (hl : ¬ (0 ≤ y0 ∧ y0 < b * 2)) (w : World) : Calls Try.prog 4 #[.agg #[.int .i64 a, .int .i64 b, .int .i64 c, .int .i64 d, .int .i64 e, .int .i64 f, .int .i64 g], .int .i64 x, .agg #[.int .i64 y0, .int .i64 y1]] w fun r w' => r = .returned (.bool true) ∧ Below w.heap.size w w' := by
  have h1 : 1 ≤ b := h.2.1.1
  have h2 : b ≤ 16 := h.2.1.2
  have h3 : 1 ≤ g := h.2.2.2.2.2.2.1
  have h4 : g ≤ 4 := h.2.2.2.2.2.2.2
  have H := hide h
  clear h
  have hl := hide hl
  have KK := hide (Kept.new w a b c d e f g y0 y1)
  go_enter Try.func4, Try.ntmps4
  go_wp2_with fail
  refine (line_yes _ _ _ _ _ _ _ _ H.out hx hx2 _).mono ?_
  rintro r w1 ⟨rfl, hb⟩
  have KK := hide ((unhide KK).next hb)
  obtain ⟨hp, hq, c0, c1, c2, c3, c4, c5, c6, d0, d1, k⟩ := unhide KK
  clear hb
  go_wp2_with fail
  clear hp hq c0 c1 c2 c3 c4 c5 c6 d0 d1 k
  refine (word_no _ _ _ _ _ _ _ _ _ H.out hl.out _).mono ?_
  rintro r w1 ⟨rfl, hb⟩
  have KK := hide ((unhide KK).next hb)
  obtain ⟨hp, hq, c0, c1, c2, c3, c4, c5, c6, d0, d1, k⟩ := unhide KK
  clear hb
  go_wp2_with fail
  clear hp hq c0 c1 c2 c3 c4 c5 c6 d0 d1 k
  refine (granule_no _ _ _ _ _ _ _ _ H.out hl.out _).mono ?_
  rintro r w1 ⟨rfl, hb⟩
  have KK := hide ((unhide KK).next hb)
  obtain ⟨hp, hq, c0, c1, c2, c3, c4, c5, c6, d0, d1, k⟩ := unhide KK
  clear hb
  go_wp2_with fail
  clear hp hq c0 c1 c2 c3 c4 c5 c6 d0 d1 k
  refine (bank_no _ _ _ _ _ _ _ _ H.out hl.out _).mono ?_
  rintro r w1 ⟨rfl, hb⟩
  have KK := hide ((unhide KK).next hb)
  obtain ⟨hp, hq, c0, c1, c2, c3, c4, c5, c6, d0, d1, k⟩ := unhide KK
  clear hb
  go_wp2_with fail
  clear hp hq c0 c1 c2 c3 c4 c5 c6 d0 d1 k
  refine (may_yes _ _ _ _ _ _ _ H.out _).mono ?_
  rintro r w1 ⟨rfl, hb⟩
  have KK := hide ((unhide KK).next hb)
  obtain ⟨hp, hq, c0, c1, c2, c3, c4, c5, c6, d0, d1, k⟩ := unhide KK
  clear hb
  go_wp2_with fail
  refine (of_yes _ _ h1 h2 hx hx2 _).mono ?_
  rintro r w1 ⟨rfl, rfl⟩
  go_wp2_with fail
  refine (rgran_no _ _ h1 h2 hl.out _).mono ?_
  rintro r w1 ⟨rfl, rfl⟩
  go_wp2_with fail
  clear hp hq c0 c1 c2 c3 c4 c5 c6 d0 d1 k
  refine (awake_ok _).mono ?_
  rintro r w1 ⟨rfl, hb⟩
  have KK := hide ((unhide KK).next hb)
  obtain ⟨hp, hq, c0, c1, c2, c3, c4, c5, c6, d0, d1, k⟩ := unhide KK
  clear hb
  go_wp2
  go_ret
  exact ⟨rfl, k⟩

set_option maxHeartbeats 2000000 in
theorem finds_xn_ly (a b c d e f g x y0 y1 : Int) (h : Ok a b c d e f g) (hx : ¬ (0 ≤ x ∧ x < b * 2 * 2)) (hl : 0 ≤ y0) (hl2 : y0 < b * 2) (ha : 0 ≤ y1) (ha2 : y1 < 2) (w : World) : Calls Try.prog 4 #[.agg #[.int .i64 a, .int .i64 b, .int .i64 c, .int .i64 d, .int .i64 e, .int .i64 f, .int .i64 g], .int .i64 x, .agg #[.int .i64 y0, .int .i64 y1]] w fun r w' => r = .returned (.bool true) ∧ Below w.heap.size w w' := by
  have h1 : 1 ≤ b := h.2.1.1
  have h2 : b ≤ 16 := h.2.1.2
  have h3 : 1 ≤ g := h.2.2.2.2.2.2.1
  have h4 : g ≤ 4 := h.2.2.2.2.2.2.2
  have H := hide h
  clear h
  have hx := hide hx
  have e1 : (y0 * 2 + y1 == 2 * y0 + y1) = true := by simp; omega
  have KK := hide (Kept.new w a b c d e f g y0 y1)
  go_enter Try.func4, Try.ntmps4
  go_wp2_with fail
  refine (line_no _ _ _ _ _ _ _ _ H.out (hx.out) _).mono ?_
  rintro r w1 ⟨rfl, hb⟩
  have KK := hide ((unhide KK).next hb)
  obtain ⟨hp, hq, c0, c1, c2, c3, c4, c5, c6, d0, d1, k⟩ := unhide KK
  clear hb
  go_wp2_with fail
  clear hp hq c0 c1 c2 c3 c4 c5 c6 d0 d1 k
  refine (word_yes _ _ _ _ _ _ _ _ _ H.out hl hl2 ha ha2 _).mono ?_
  rintro r w1 ⟨rfl, hb⟩
  have KK := hide ((unhide KK).next hb)
  obtain ⟨hp, hq, c0, c1, c2, c3, c4, c5, c6, d0, d1, k⟩ := unhide KK
  clear hb
  go_wp2_with fail
  clear hp hq c0 c1 c2 c3 c4 c5 c6 d0 d1 k
  refine (granule_yes _ _ _ _ _ _ _ _ H.out hl hl2 _).mono ?_
  rintro r w1 ⟨rfl, hb⟩
  have KK := hide ((unhide KK).next hb)
  obtain ⟨hp, hq, c0, c1, c2, c3, c4, c5, c6, d0, d1, k⟩ := unhide KK
  clear hb
  go_wp2_with fail
  clear hp hq c0 c1 c2 c3 c4 c5 c6 d0 d1 k
  refine (bank_yes _ _ _ _ _ _ _ _ H.out hl hl2 _).mono ?_
  rintro r w1 ⟨rfl, hb⟩
  have KK := hide ((unhide KK).next hb)
  obtain ⟨hp, hq, c0, c1, c2, c3, c4, c5, c6, d0, d1, k⟩ := unhide KK
  clear hb
  go_wp2_with fail
  clear hp hq c0 c1 c2 c3 c4 c5 c6 d0 d1 k
  refine (may_yes _ _ _ _ _ _ _ H.out _).mono ?_
  rintro r w1 ⟨rfl, hb⟩
  have KK := hide ((unhide KK).next hb)
  obtain ⟨hp, hq, c0, c1, c2, c3, c4, c5, c6, d0, d1, k⟩ := unhide KK
  clear hb
  go_wp2_with fail
  refine (of_no _ _ h1 h2 hx.out _).mono ?_
  rintro r w1 ⟨rfl, rfl⟩
  go_wp2_with fail
  refine (rgran_yes _ _ h1 h2 hl hl2 _).mono ?_
  rintro r w1 ⟨rfl, rfl⟩
  go_wp2_with fail
  clear hp hq c0 c1 c2 c3 c4 c5 c6 d0 d1 k
  refine (awake_ok _).mono ?_
  rintro r w1 ⟨rfl, hb⟩
  have KK := hide ((unhide KK).next hb)
  obtain ⟨hp, hq, c0, c1, c2, c3, c4, c5, c6, d0, d1, k⟩ := unhide KK
  clear hb
  go_wp2
  go_ret
  exact ⟨rfl, k⟩

set_option maxHeartbeats 2000000 in
theorem finds_xn_lo1 (a b c d e f g x y0 y1 : Int) (h : Ok a b c d e f g) (hx : ¬ (0 ≤ x ∧ x < b * 2 * 2)) (hl : 0 ≤ y0) (hl2 : y0 < b * 2) (ha : y1 < 0) (w : World) : Calls Try.prog 4 #[.agg #[.int .i64 a, .int .i64 b, .int .i64 c, .int .i64 d, .int .i64 e, .int .i64 f, .int .i64 g], .int .i64 x, .agg #[.int .i64 y0, .int .i64 y1]] w fun r w' => r = .returned (.bool true) ∧ Below w.heap.size w w' := by
  have h1 : 1 ≤ b := h.2.1.1
  have h2 : b ≤ 16 := h.2.1.2
  have h3 : 1 ≤ g := h.2.2.2.2.2.2.1
  have h4 : g ≤ 4 := h.2.2.2.2.2.2.2
  have H := hide h
  clear h
  have hx := hide hx
  have KK := hide (Kept.new w a b c d e f g y0 y1)
  go_enter Try.func4, Try.ntmps4
  go_wp2_with fail
  refine (line_no _ _ _ _ _ _ _ _ H.out (hx.out) _).mono ?_
  rintro r w1 ⟨rfl, hb⟩
  have KK := hide ((unhide KK).next hb)
  obtain ⟨hp, hq, c0, c1, c2, c3, c4, c5, c6, d0, d1, k⟩ := unhide KK
  clear hb
  go_wp2_with fail
  clear hp hq c0 c1 c2 c3 c4 c5 c6 d0 d1 k
  refine (word_out _ _ _ _ _ _ _ _ _ H.out hl hl2 (by omega) _).mono ?_
  rintro r w1 ⟨rfl, hb⟩
  have KK := hide ((unhide KK).next hb)
  obtain ⟨hp, hq, c0, c1, c2, c3, c4, c5, c6, d0, d1, k⟩ := unhide KK
  clear hb
  go_wp2_with fail
  clear hp hq c0 c1 c2 c3 c4 c5 c6 d0 d1 k
  refine (granule_yes _ _ _ _ _ _ _ _ H.out hl hl2 _).mono ?_
  rintro r w1 ⟨rfl, hb⟩
  have KK := hide ((unhide KK).next hb)
  obtain ⟨hp, hq, c0, c1, c2, c3, c4, c5, c6, d0, d1, k⟩ := unhide KK
  clear hb
  go_wp2_with fail
  clear hp hq c0 c1 c2 c3 c4 c5 c6 d0 d1 k
  refine (bank_yes _ _ _ _ _ _ _ _ H.out hl hl2 _).mono ?_
  rintro r w1 ⟨rfl, hb⟩
  have KK := hide ((unhide KK).next hb)
  obtain ⟨hp, hq, c0, c1, c2, c3, c4, c5, c6, d0, d1, k⟩ := unhide KK
  clear hb
  go_wp2_with fail
  clear hp hq c0 c1 c2 c3 c4 c5 c6 d0 d1 k
  refine (may_yes _ _ _ _ _ _ _ H.out _).mono ?_
  rintro r w1 ⟨rfl, hb⟩
  have KK := hide ((unhide KK).next hb)
  obtain ⟨hp, hq, c0, c1, c2, c3, c4, c5, c6, d0, d1, k⟩ := unhide KK
  clear hb
  go_wp2_with fail
  refine (of_no _ _ h1 h2 hx.out _).mono ?_
  rintro r w1 ⟨rfl, rfl⟩
  go_wp2_with fail
  refine (rgran_yes _ _ h1 h2 hl hl2 _).mono ?_
  rintro r w1 ⟨rfl, rfl⟩
  go_wp2_with fail
  clear hp hq c0 c1 c2 c3 c4 c5 c6 d0 d1 k
  refine (awake_ok _).mono ?_
  rintro r w1 ⟨rfl, hb⟩
  have KK := hide ((unhide KK).next hb)
  obtain ⟨hp, hq, c0, c1, c2, c3, c4, c5, c6, d0, d1, k⟩ := unhide KK
  clear hb
  go_wp2
  go_ret
  exact ⟨rfl, k⟩

set_option maxHeartbeats 2000000 in
theorem finds_xn_lo2 (a b c d e f g x y0 y1 : Int) (h : Ok a b c d e f g) (hx : ¬ (0 ≤ x ∧ x < b * 2 * 2)) (hl : 0 ≤ y0) (hl2 : y0 < b * 2) (ha : 2 ≤ y1) (w : World) : Calls Try.prog 4 #[.agg #[.int .i64 a, .int .i64 b, .int .i64 c, .int .i64 d, .int .i64 e, .int .i64 f, .int .i64 g], .int .i64 x, .agg #[.int .i64 y0, .int .i64 y1]] w fun r w' => r = .returned (.bool true) ∧ Below w.heap.size w w' := by
  have h1 : 1 ≤ b := h.2.1.1
  have h2 : b ≤ 16 := h.2.1.2
  have h3 : 1 ≤ g := h.2.2.2.2.2.2.1
  have h4 : g ≤ 4 := h.2.2.2.2.2.2.2
  have H := hide h
  clear h
  have hx := hide hx
  have KK := hide (Kept.new w a b c d e f g y0 y1)
  go_enter Try.func4, Try.ntmps4
  go_wp2_with fail
  refine (line_no _ _ _ _ _ _ _ _ H.out (hx.out) _).mono ?_
  rintro r w1 ⟨rfl, hb⟩
  have KK := hide ((unhide KK).next hb)
  obtain ⟨hp, hq, c0, c1, c2, c3, c4, c5, c6, d0, d1, k⟩ := unhide KK
  clear hb
  go_wp2_with fail
  clear hp hq c0 c1 c2 c3 c4 c5 c6 d0 d1 k
  refine (word_out _ _ _ _ _ _ _ _ _ H.out hl hl2 (by omega) _).mono ?_
  rintro r w1 ⟨rfl, hb⟩
  have KK := hide ((unhide KK).next hb)
  obtain ⟨hp, hq, c0, c1, c2, c3, c4, c5, c6, d0, d1, k⟩ := unhide KK
  clear hb
  go_wp2_with fail
  clear hp hq c0 c1 c2 c3 c4 c5 c6 d0 d1 k
  refine (granule_yes _ _ _ _ _ _ _ _ H.out hl hl2 _).mono ?_
  rintro r w1 ⟨rfl, hb⟩
  have KK := hide ((unhide KK).next hb)
  obtain ⟨hp, hq, c0, c1, c2, c3, c4, c5, c6, d0, d1, k⟩ := unhide KK
  clear hb
  go_wp2_with fail
  clear hp hq c0 c1 c2 c3 c4 c5 c6 d0 d1 k
  refine (bank_yes _ _ _ _ _ _ _ _ H.out hl hl2 _).mono ?_
  rintro r w1 ⟨rfl, hb⟩
  have KK := hide ((unhide KK).next hb)
  obtain ⟨hp, hq, c0, c1, c2, c3, c4, c5, c6, d0, d1, k⟩ := unhide KK
  clear hb
  go_wp2_with fail
  clear hp hq c0 c1 c2 c3 c4 c5 c6 d0 d1 k
  refine (may_yes _ _ _ _ _ _ _ H.out _).mono ?_
  rintro r w1 ⟨rfl, hb⟩
  have KK := hide ((unhide KK).next hb)
  obtain ⟨hp, hq, c0, c1, c2, c3, c4, c5, c6, d0, d1, k⟩ := unhide KK
  clear hb
  go_wp2_with fail
  refine (of_no _ _ h1 h2 hx.out _).mono ?_
  rintro r w1 ⟨rfl, rfl⟩
  go_wp2_with fail
  refine (rgran_yes _ _ h1 h2 hl hl2 _).mono ?_
  rintro r w1 ⟨rfl, rfl⟩
  go_wp2_with fail
  clear hp hq c0 c1 c2 c3 c4 c5 c6 d0 d1 k
  refine (awake_ok _).mono ?_
  rintro r w1 ⟨rfl, hb⟩
  have KK := hide ((unhide KK).next hb)
  obtain ⟨hp, hq, c0, c1, c2, c3, c4, c5, c6, d0, d1, k⟩ := unhide KK
  clear hb
  go_wp2
  go_ret
  exact ⟨rfl, k⟩

set_option maxHeartbeats 2000000 in
theorem finds_xn_ln (a b c d e f g x y0 y1 : Int) (h : Ok a b c d e f g) (hx : ¬ (0 ≤ x ∧ x < b * 2 * 2)) (hl : ¬ (0 ≤ y0 ∧ y0 < b * 2)) (w : World) : Calls Try.prog 4 #[.agg #[.int .i64 a, .int .i64 b, .int .i64 c, .int .i64 d, .int .i64 e, .int .i64 f, .int .i64 g], .int .i64 x, .agg #[.int .i64 y0, .int .i64 y1]] w fun r w' => r = .returned (.bool true) ∧ Below w.heap.size w w' := by
  have h1 : 1 ≤ b := h.2.1.1
  have h2 : b ≤ 16 := h.2.1.2
  have h3 : 1 ≤ g := h.2.2.2.2.2.2.1
  have h4 : g ≤ 4 := h.2.2.2.2.2.2.2
  have H := hide h
  clear h
  have hx := hide hx
  have hl := hide hl
  have KK := hide (Kept.new w a b c d e f g y0 y1)
  go_enter Try.func4, Try.ntmps4
  go_wp2_with fail
  refine (line_no _ _ _ _ _ _ _ _ H.out (hx.out) _).mono ?_
  rintro r w1 ⟨rfl, hb⟩
  have KK := hide ((unhide KK).next hb)
  obtain ⟨hp, hq, c0, c1, c2, c3, c4, c5, c6, d0, d1, k⟩ := unhide KK
  clear hb
  go_wp2_with fail
  clear hp hq c0 c1 c2 c3 c4 c5 c6 d0 d1 k
  refine (word_no _ _ _ _ _ _ _ _ _ H.out hl.out _).mono ?_
  rintro r w1 ⟨rfl, hb⟩
  have KK := hide ((unhide KK).next hb)
  obtain ⟨hp, hq, c0, c1, c2, c3, c4, c5, c6, d0, d1, k⟩ := unhide KK
  clear hb
  go_wp2_with fail
  clear hp hq c0 c1 c2 c3 c4 c5 c6 d0 d1 k
  refine (granule_no _ _ _ _ _ _ _ _ H.out hl.out _).mono ?_
  rintro r w1 ⟨rfl, hb⟩
  have KK := hide ((unhide KK).next hb)
  obtain ⟨hp, hq, c0, c1, c2, c3, c4, c5, c6, d0, d1, k⟩ := unhide KK
  clear hb
  go_wp2_with fail
  clear hp hq c0 c1 c2 c3 c4 c5 c6 d0 d1 k
  refine (bank_no _ _ _ _ _ _ _ _ H.out hl.out _).mono ?_
  rintro r w1 ⟨rfl, hb⟩
  have KK := hide ((unhide KK).next hb)
  obtain ⟨hp, hq, c0, c1, c2, c3, c4, c5, c6, d0, d1, k⟩ := unhide KK
  clear hb
  go_wp2_with fail
  clear hp hq c0 c1 c2 c3 c4 c5 c6 d0 d1 k
  refine (may_yes _ _ _ _ _ _ _ H.out _).mono ?_
  rintro r w1 ⟨rfl, hb⟩
  have KK := hide ((unhide KK).next hb)
  obtain ⟨hp, hq, c0, c1, c2, c3, c4, c5, c6, d0, d1, k⟩ := unhide KK
  clear hb
  go_wp2_with fail
  refine (of_no _ _ h1 h2 hx.out _).mono ?_
  rintro r w1 ⟨rfl, rfl⟩
  go_wp2_with fail
  refine (rgran_no _ _ h1 h2 hl.out _).mono ?_
  rintro r w1 ⟨rfl, rfl⟩
  go_wp2_with fail
  clear hp hq c0 c1 c2 c3 c4 c5 c6 d0 d1 k
  refine (awake_ok _).mono ?_
  rintro r w1 ⟨rfl, hb⟩
  have KK := hide ((unhide KK).next hb)
  obtain ⟨hp, hq, c0, c1, c2, c3, c4, c5, c6, d0, d1, k⟩ := unhide KK
  clear hb
  go_wp2
  go_ret
  exact ⟨rfl, k⟩
end Go.Proofs.Ytgdbjkkhmamdmaa
