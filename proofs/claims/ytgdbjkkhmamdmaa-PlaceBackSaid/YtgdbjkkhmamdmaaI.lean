/- The iterator of place.LinesOf, and its contract. -/
import Derived.Test.YtgdbjkkhmamdmaaP
import Derived.RangeFuncNested
import Derived.RangeFuncBound
import Derived.RangeFuncCalls
import Derived.RangeFuncLeaves
import Derived.Shelf.Abstract
import Derived.Shelf.RegionOpen
import Derived.WalkKit
import Derived.OwnWalkIn
import Derived.TacticsInMore
import Derived.LoopNIn
import Derived.LoopIn
import Derived.Outline
import Derived.IntWalk
import Derived.Deep.RegionHeld3
import Derived.BigQuiet
import Derived.Deep.QuietTactic
namespace Go.Proofs.Ytgdbjkkhmamdmaa
open Go.RowKit Go.Shelf
attribute [local go_sem] Oper.semAt_some
set_option linter.unusedVariables false
set_option maxRecDepth 100000
theorem linesOf_any (a b c d e f g x : Int) (w : World) : Calls Try.prog 18 #[.agg #[.int .i64 a, .int .i64 b, .int .i64 c, .int .i64 d, .int .i64 e, .int .i64 f, .int .i64 g], .int .i64 x] w fun r w' => r = .returned (.func (.func 21) #[] #[.pointer (some ⟨w.heap.size + 1, 0, none⟩), .pointer (some ⟨w.heap.size, 0, none⟩)]) ∧ w' = (w.alloc (.cells #[.int .i64 a, .int .i64 b, .int .i64 c, .int .i64 d, .int .i64 e, .int .i64 f, .int .i64 g] 23)).alloc (.cells #[.int .i64 x] 3) := by
  go_enter Try.func18, Try.ntmps18
  go_wp2
  go_ret
  exact ⟨rfl, rfl⟩
theorem unhide {p : Prop} (h : Hid p) : p := h
theorem grown_of_below {a w : World} (h : Below a.heap.size a w) (row : Option Nat) : a.grownBy w row := ⟨h.os, h.tape, h.output, h.size, fun i hi _ => h.block i hi⟩
theorem keep_bs {w0 W w' : World} {p q : Nat} {a b c d e f g x : Int} (h : q < W.heap.size ∧ W.cell? ⟨q, 0, none⟩ = some (.int .i64 x) ∧ p < W.heap.size ∧ W.cell? ⟨p, 0, none⟩ = some (.int .i64 a) ∧ W.cell? ⟨p, 1, none⟩ = some (.int .i64 b) ∧ W.cell? ⟨p, 2, none⟩ = some (.int .i64 c) ∧ W.cell? ⟨p, 3, none⟩ = some (.int .i64 d) ∧ W.cell? ⟨p, 4, none⟩ = some (.int .i64 e) ∧ W.cell? ⟨p, 5, none⟩ = some (.int .i64 f) ∧ W.cell? ⟨p, 6, none⟩ = some (.int .i64 g) ∧ Below w0.heap.size w0 W) (hb : Below W.heap.size W w') :
    q < w'.heap.size ∧ w'.cell? ⟨q, 0, none⟩ = some (.int .i64 x) ∧ p < w'.heap.size ∧ w'.cell? ⟨p, 0, none⟩ = some (.int .i64 a) ∧ w'.cell? ⟨p, 1, none⟩ = some (.int .i64 b) ∧ w'.cell? ⟨p, 2, none⟩ = some (.int .i64 c) ∧ w'.cell? ⟨p, 3, none⟩ = some (.int .i64 d) ∧ w'.cell? ⟨p, 4, none⟩ = some (.int .i64 e) ∧ w'.cell? ⟨p, 5, none⟩ = some (.int .i64 f) ∧ w'.cell? ⟨p, 6, none⟩ = some (.int .i64 g) ∧ Below w0.heap.size w0 w' :=
  ⟨Nat.lt_of_lt_of_le h.1 hb.size, cell_next hb h.1 h.2.1, keep_s h.2.2 hb⟩
/-- A granule's two lines. -/
abbrev Two (x : Int) := {v : Int // v = x * 2 ∨ v = x * 2 + 1}
def t0 (x : Int) : Two x := ⟨x * 2, .inl rfl⟩
def t1 (x : Int) : Two x := ⟨x * 2 + 1, .inr rfl⟩
def Step {x : Int} (J : List (Two x) → World → Prop) (i : Value) (wr : World) : Prop :=
  (i = .int .i64 (x * 2) ∧ J [] wr) ∨ (i = .int .i64 (x * 2 + 1) ∧ J [t0 x] wr) ∨ (i = .int .i64 (x * 2 + 1 + 1) ∧ J [t0 x, t1 x] wr)
set_option maxHeartbeats 2000000 in
theorem lines_stops (a b c d e f g x : Int) (h : Ok a b c d e f g) (hx : 0 ≤ x) (hx2 : x < b) (n : Nat) (hn : 1 ≤ n) (Bc Bg n₀ : Nat) (hBc : Bc < n₀) (hBg : Bg < n₀) (w : World) (hn₀ : n₀ ≤ w.heap.size) (hc : Box w Bc a b c d e f g) (hg : w.cell? ⟨Bg, 0, none⟩ = some (.int .i64 x)) :
    SeqStopsK Fence.wide n Try.prog 21 #[.pointer (some ⟨Bg, 0, none⟩), .pointer (some ⟨Bc, 0, none⟩)] (fun v : Two x => #[Value.int .i64 v.1]) (Below n₀) (fun xs => xs = [t0 x, t1 x]) (fun pre => pre = [t0 x] ∨ pre = [t0 x, t1 x]) 2 w := fun l J Jx W hW hJ hJx hY h0 => by
  have h1 : 1 ≤ b := h.2.1.1
  have h2 : b ≤ 16 := h.2.1.2
  have H := hide h
  clear h
  have hWn := hW.mono hn₀
  obtain ⟨q, c0, c1, c2, c3, c4, c5, c6⟩ := hc.next hW
  have hg := (hW.cell (p := ⟨Bg, 0, none⟩) (by show Bg < _; omega)).trans hg
  have hgl : Bg < W.heap.size := by have := hW.size; omega
  have e0 : decide (x < 0) = false := by simp; omega
  have e1 : decide (IntKind.i64.wrap b ≤ x) = false := by rw [IntWalk.i64_in _ (by omega)]; simp; omega
  refine callsIn_of_wp Try.func21 rfl trivial ?_ rfl
  simp only [Try.ntmps21, List.size_toArray, List.length_cons, List.length_nil, Nat.reduceAdd, Nat.reduceSub, Array.replicate_succ, Array.replicate_zero, List.push_toArray, List.append_toArray, List.nil_append, List.cons_append]
  refine wpIn_wide.2 ?_
  go_wp2_with fail
  go_region_held3 (fun w' => Bg < w'.heap.size ∧ w'.cell? ⟨Bg, 0, none⟩ = some (.int .i64 x) ∧ Bc < w'.heap.size ∧ w'.cell? ⟨Bc, 0, none⟩ = some (.int .i64 a) ∧ w'.cell? ⟨Bc, 1, none⟩ = some (.int .i64 b) ∧ w'.cell? ⟨Bc, 2, none⟩ = some (.int .i64 c) ∧ w'.cell? ⟨Bc, 3, none⟩ = some (.int .i64 d) ∧ w'.cell? ⟨Bc, 4, none⟩ = some (.int .i64 e) ∧ w'.cell? ⟨Bc, 5, none⟩ = some (.int .i64 f) ∧ w'.cell? ⟨Bc, 6, none⟩ = some (.int .i64 g) ∧ Below W.heap.size W w')
    (first | assumption | exact keep_bs (by assumption) hb | exact ⟨hgl, hg, q, c0, c1, c2, c3, c4, c5, c6, Below.refl _ _⟩ | exact ⟨hgl, hg, q, c0, c1, c2, c3, c4, c5, c6, (Below.refl _ _).drew⟩)
    (first
      | (go_at_call 10; refine (lines_yes _ _ _ _ _ _ _ H.out _).mono ?_; rintro r w' ⟨rfl, hb⟩))
  rename_i w' hb hs
  obtain ⟨_, _, _, _, _, _, _, _, _, _, k⟩ := hs
  have hJ1 := hJ [] W w' none h0 (grown_of_below k none) (fun r e => by cases e)
  clear hb k e0 e1 c0 c1 c2 c3 c4 c5 c6 q hg hgl h0
  go_wp2_with fail
  refine (wpIn_wide (n := n)).1 ?_
  gi_loopw [5] (fun i wr => Step J i wr) (fun i _ => (x * 2 + 2 - intOf i).toNat)
  case atStart => exact .inl ⟨rfl, hJ1⟩
  case round =>
    rcases hrel with ⟨rfl, hJs⟩ | ⟨rfl, hJs⟩ | ⟨rfl, hJs⟩
    · obtain ⟨fn, tmps, assign, body, hy, hR⟩ := hY _ (t0 x) wr hJs (by simp)
      dsimp only [t0] at hy
      gi_wp2
      refine hR.mono ?_
      rintro e W3 (⟨rfl, hJ3, hk3⟩ | ⟨rfl, hJx3⟩)
      · gi_wp2
        go_roundw
        case rel => exact .inr (.inl ⟨rfl, hJ3⟩)
        case measure => simp [intOf]; omega
      · gi_wp2
        refine bodyPost_ret (results_none rfl _ _ _) rfl ?_
        exact ⟨⟨_, rfl⟩, .inr ⟨_, .inl rfl, hJx3⟩⟩
    · obtain ⟨fn, tmps, assign, body, hy, hR⟩ := hY _ (t1 x) wr hJs (by simp)
      dsimp only [t1] at hy
      gi_wp2
      refine hR.mono ?_
      rintro e W3 (⟨rfl, hJ3, hk3⟩ | ⟨rfl, hJx3⟩)
      · gi_wp2
        go_roundw
        case rel => exact .inr (.inr ⟨rfl, hJ3⟩)
        case measure => simp [intOf]; omega
      · gi_wp2
        refine bodyPost_ret (results_none rfl _ _ _) rfl ?_
        exact ⟨⟨_, rfl⟩, .inr ⟨_, .inr rfl, hJx3⟩⟩
    · gi_wp2
      go_end0
      exact ⟨⟨_, rfl⟩, .inl ⟨_, rfl, hJs⟩⟩

set_option maxHeartbeats 2000000 in
theorem none_neg (a b c d e f g x : Int) (hx : x < 0) (n : Nat) (hn : 1 ≤ n) (Bc Bg n₀ : Nat) (hBc : Bc < n₀) (hBg : Bg < n₀) (w : World) (hn₀ : n₀ ≤ w.heap.size) (hc : Box w Bc a b c d e f g) (hg : w.cell? ⟨Bg, 0, none⟩ = some (.int .i64 x)) :
    SeqStopsK Fence.wide n Try.prog 21 #[.pointer (some ⟨Bg, 0, none⟩), .pointer (some ⟨Bc, 0, none⟩)] (fun v : Two x => #[Value.int .i64 v.1]) (Below n₀) (fun xs => xs = []) (fun pre => False) 0 w := fun l J Jx W hW hJ hJx hY h0 => by
  have e0 : decide (x < 0) = true := by simp; omega
  have H : Hid (¬ Ok 0 0 0 0 0 0 0) := by unfold Hid Ok; omega
  obtain ⟨q, c0, c1, c2, c3, c4, c5, c6⟩ := hc.next hW
  have hg := (hW.cell (p := ⟨Bg, 0, none⟩) (by show Bg < _; omega)).trans hg
  have hgl : Bg < W.heap.size := by have := hW.size; omega
  refine callsIn_of_wp Try.func21 rfl trivial ?_ rfl
  simp only [Try.ntmps21, List.size_toArray, List.length_cons, List.length_nil, Nat.reduceAdd, Nat.reduceSub, Array.replicate_succ, Array.replicate_zero, List.push_toArray, List.append_toArray, List.nil_append, List.cons_append]
  refine wpIn_wide.2 ?_
  go_wp2_with fail
  go_quiet (fail)
  have hJ1 := hJ [] W (W.drewN nq) none h0 (grown_of_below (below_drewN (Below.refl _ _) nq) none) (fun r e => by cases e)
  go_wp2
  refine bodyPost_ret (results_none rfl _ _ _) rfl ?_
  exact ⟨⟨_, rfl⟩, .inl ⟨_, rfl, hJ1⟩⟩

set_option maxHeartbeats 2000000 in
theorem none_much (a b c d e f g x : Int) (h : Ok a b c d e f g) (hx : 0 ≤ x) (hx2 : b ≤ x) (n : Nat) (hn : 1 ≤ n) (Bc Bg n₀ : Nat) (hBc : Bc < n₀) (hBg : Bg < n₀) (w : World) (hn₀ : n₀ ≤ w.heap.size) (hc : Box w Bc a b c d e f g) (hg : w.cell? ⟨Bg, 0, none⟩ = some (.int .i64 x)) :
    SeqStopsK Fence.wide n Try.prog 21 #[.pointer (some ⟨Bg, 0, none⟩), .pointer (some ⟨Bc, 0, none⟩)] (fun v : Two x => #[Value.int .i64 v.1]) (Below n₀) (fun xs => xs = []) (fun pre => False) 0 w := fun l J Jx W hW hJ hJx hY h0 => by
  have h1 : 1 ≤ b := h.2.1.1
  have h2 : b ≤ 16 := h.2.1.2
  have H := hide h
  clear h
  have e0 : decide (x < 0) = false := by simp; omega
  have e1 : decide (IntKind.i64.wrap b ≤ x) = true := by rw [IntWalk.i64_in _ (by omega)]; simp; omega
  obtain ⟨q, c0, c1, c2, c3, c4, c5, c6⟩ := hc.next hW
  have hg := (hW.cell (p := ⟨Bg, 0, none⟩) (by show Bg < _; omega)).trans hg
  have hgl : Bg < W.heap.size := by have := hW.size; omega
  refine callsIn_of_wp Try.func21 rfl trivial ?_ rfl
  simp only [Try.ntmps21, List.size_toArray, List.length_cons, List.length_nil, Nat.reduceAdd, Nat.reduceSub, Array.replicate_succ, Array.replicate_zero, List.push_toArray, List.append_toArray, List.nil_append, List.cons_append]
  refine wpIn_wide.2 ?_
  go_wp2_with fail
  go_region_held3 (fun w' => Bg < w'.heap.size ∧ w'.cell? ⟨Bg, 0, none⟩ = some (.int .i64 x) ∧ Bc < w'.heap.size ∧ w'.cell? ⟨Bc, 0, none⟩ = some (.int .i64 a) ∧ w'.cell? ⟨Bc, 1, none⟩ = some (.int .i64 b) ∧ w'.cell? ⟨Bc, 2, none⟩ = some (.int .i64 c) ∧ w'.cell? ⟨Bc, 3, none⟩ = some (.int .i64 d) ∧ w'.cell? ⟨Bc, 4, none⟩ = some (.int .i64 e) ∧ w'.cell? ⟨Bc, 5, none⟩ = some (.int .i64 f) ∧ w'.cell? ⟨Bc, 6, none⟩ = some (.int .i64 g) ∧ Below W.heap.size W w')
    (first | assumption | exact keep_bs (by assumption) hb | exact ⟨hgl, hg, q, c0, c1, c2, c3, c4, c5, c6, Below.refl _ _⟩ | exact ⟨hgl, hg, q, c0, c1, c2, c3, c4, c5, c6, (Below.refl _ _).drew⟩)
    (first
      | (go_at_call 10; refine (lines_yes _ _ _ _ _ _ _ H.out _).mono ?_; rintro r w' ⟨rfl, hb⟩))
  have k : Below W.heap.size W w' := by first | assumption | exact s_below (p := Bc) (And.right (And.right (by assumption)))
  have hJ1 := hJ [] W _ none h0 (grown_of_below k none) (fun r e => by cases e)
  go_wp2
  refine bodyPost_ret (results_none rfl _ _ _) rfl ?_
  exact ⟨⟨_, rfl⟩, .inl ⟨_, rfl, hJ1⟩⟩

set_option maxHeartbeats 2000000 in
theorem none_bad (a b c d e f g x : Int) (h : ¬ Ok a b c d e f g) (hx : 0 ≤ x) (n : Nat) (hn : 1 ≤ n) (Bc Bg n₀ : Nat) (hBc : Bc < n₀) (hBg : Bg < n₀) (w : World) (hn₀ : n₀ ≤ w.heap.size) (hc : Box w Bc a b c d e f g) (hg : w.cell? ⟨Bg, 0, none⟩ = some (.int .i64 x)) :
    SeqStopsK Fence.wide n Try.prog 21 #[.pointer (some ⟨Bg, 0, none⟩), .pointer (some ⟨Bc, 0, none⟩)] (fun v : Two x => #[Value.int .i64 v.1]) (Below n₀) (fun xs => xs = []) (fun pre => False) 0 w := fun l J Jx W hW hJ hJx hY h0 => by
  have H := hide h
  clear h
  have e0 : decide (x < 0) = false := by simp; omega
  have e1 : decide (IntKind.i64.wrap 0 ≤ x) = true := by rw [IntWalk.i64_in _ (by omega)]; simp; omega
  obtain ⟨q, c0, c1, c2, c3, c4, c5, c6⟩ := hc.next hW
  have hg := (hW.cell (p := ⟨Bg, 0, none⟩) (by show Bg < _; omega)).trans hg
  have hgl : Bg < W.heap.size := by have := hW.size; omega
  refine callsIn_of_wp Try.func21 rfl trivial ?_ rfl
  simp only [Try.ntmps21, List.size_toArray, List.length_cons, List.length_nil, Nat.reduceAdd, Nat.reduceSub, Array.replicate_succ, Array.replicate_zero, List.push_toArray, List.append_toArray, List.nil_append, List.cons_append]
  refine wpIn_wide.2 ?_
  go_wp2_with fail
  go_region_held3 (fun w' => Bg < w'.heap.size ∧ w'.cell? ⟨Bg, 0, none⟩ = some (.int .i64 x) ∧ Bc < w'.heap.size ∧ w'.cell? ⟨Bc, 0, none⟩ = some (.int .i64 a) ∧ w'.cell? ⟨Bc, 1, none⟩ = some (.int .i64 b) ∧ w'.cell? ⟨Bc, 2, none⟩ = some (.int .i64 c) ∧ w'.cell? ⟨Bc, 3, none⟩ = some (.int .i64 d) ∧ w'.cell? ⟨Bc, 4, none⟩ = some (.int .i64 e) ∧ w'.cell? ⟨Bc, 5, none⟩ = some (.int .i64 f) ∧ w'.cell? ⟨Bc, 6, none⟩ = some (.int .i64 g) ∧ Below W.heap.size W w')
    (first | assumption | exact keep_bs (by assumption) hb | exact ⟨hgl, hg, q, c0, c1, c2, c3, c4, c5, c6, Below.refl _ _⟩ | exact ⟨hgl, hg, q, c0, c1, c2, c3, c4, c5, c6, (Below.refl _ _).drew⟩)
    (first
      | (go_at_call 10; refine (lines_no _ _ _ _ _ _ _ H.out _).mono ?_; rintro r w' ⟨rfl, hb⟩))
  have k : Below W.heap.size W w' := by first | assumption | exact s_below (p := Bc) (And.right (And.right (by assumption)))
  have hJ1 := hJ [] W _ none h0 (grown_of_below k none) (fun r e => by cases e)
  go_wp2
  refine bodyPost_ret (results_none rfl _ _ _) rfl ?_
  exact ⟨⟨_, rfl⟩, .inl ⟨_, rfl, hJ1⟩⟩
end Go.Proofs.Ytgdbjkkhmamdmaa
