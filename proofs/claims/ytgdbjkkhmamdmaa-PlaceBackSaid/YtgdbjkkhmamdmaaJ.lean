/- PlaceLines, walked. -/
import Derived.Test.YtgdbjkkhmamdmaaI
import Derived.RangeFuncNested
import Derived.RangeFuncBound
import Derived.RangeFuncCalls
import Derived.RangeFuncLeaves
import Derived.Shelf.Abstract
import Derived.Shelf.RegionOpen
import Derived.WalkKit
import Derived.OwnWalkIn
import Derived.TacticsInMore
import Derived.LoopNIn
import Derived.LoopIn
import Derived.Outline
import Derived.IntWalk
import Derived.Deep.RegionHeld3
import Derived.BigQuiet
import Derived.Deep.QuietTactic
namespace Go.Proofs.Ytgdbjkkhmamdmaa
open Go.RowKit Go.Shelf
attribute [local go_sem] Oper.semAt_some
set_option linter.unusedVariables false
set_option maxRecDepth 100000
theorem func_nil (m k : Nat) (w : World) : (binOp BinOp.eql 40 (.func (.func 21) #[] #[.pointer (some ⟨m, 0, none⟩), .pointer (some ⟨k, 0, none⟩)]) .nilFunc).run Try.prog w = .ok (.bool false) w := by kernel_rfl
theorem keepsOthers_of_below {W W' : World} (h : Below W.heap.size W W') : KeepsOthers W W' := ⟨h.size, fun k o hk _ => (h.block k (Array.getElem?_eq_some_iff.1 hk).1).trans hk⟩
/-- What the walk of PlaceLines holds on to: its boxes (the configuration, the granule, the result, the count m), and that nothing that was there has turned. -/
def At (w : World) (a b c d e f g x m : Int) (W : World) : Prop := W.cell? ⟨w.heap.size, 0, none⟩ = some (.int .i64 a) ∧ W.cell? ⟨w.heap.size, 1, none⟩ = some (.int .i64 b) ∧ W.cell? ⟨w.heap.size, 2, none⟩ = some (.int .i64 c) ∧ W.cell? ⟨w.heap.size, 3, none⟩ = some (.int .i64 d) ∧ W.cell? ⟨w.heap.size, 4, none⟩ = some (.int .i64 e) ∧ W.cell? ⟨w.heap.size, 5, none⟩ = some (.int .i64 f) ∧ W.cell? ⟨w.heap.size, 6, none⟩ = some (.int .i64 g) ∧ W.cell? ⟨w.heap.size + 1, 0, none⟩ = some (.int .i64 x) ∧ W.cell? ⟨w.heap.size + 1 + 1, 0, none⟩ = some (.bool false) ∧ W.frozen? ⟨w.heap.size + 1 + 1, 0, none⟩ = false ∧ W.cell? ⟨w.heap.size + 1 + 1 + 1 + 1 + 1, 0, none⟩ = some (.int .i64 m) ∧ W.frozen? ⟨w.heap.size + 1 + 1 + 1 + 1 + 1, 0, none⟩ = false ∧ w.heap.size + 1 + 1 + 1 + 1 + 1 < W.heap.size ∧ Below w.heap.size w W
theorem At.next {w W W' : World} {a b c d e f g x m : Int} (h : At w a b c d e f g x m W) (hb : Below W.heap.size W W') : At w a b c d e f g x m W' := by
  obtain ⟨c0, c1, c2, c3, c4, c5, c6, cx, cr, fr, cn, fn, lt, kb⟩ := h
  exact ⟨cell_next hb (by omega) c0, cell_next hb (by omega) c1, cell_next hb (by omega) c2, cell_next hb (by omega) c3, cell_next hb (by omega) c4, cell_next hb (by omega) c5, cell_next hb (by omega) c6, cell_next hb (by omega) cx, cell_next hb (by omega) cr, (hb.frozen (p := ⟨w.heap.size + 1 + 1, 0, none⟩) (by show w.heap.size + 1 + 1 < _; omega)).trans fr, cell_next hb (by omega) cn, (hb.frozen (p := ⟨w.heap.size + 1 + 1 + 1 + 1 + 1, 0, none⟩) (by show w.heap.size + 1 + 1 + 1 + 1 + 1 < _; omega)).trans fn, Nat.lt_of_lt_of_le lt hb.size, kb.trans (hb.mono kb.size)⟩
theorem At.own {β : Type} {w : World} {a b c d e f g x : Int} (B : Nat) (hB : w.heap.size ≤ B) (R : β → Int → Prop) : OwnFrom B (fun s W => ∃ m, R s m ∧ At w a b c d e f g x m W) := by
  rintro s A B' row ⟨m, hr0, hs⟩ hg hr
  have hk : ∀ r, row = some r → ∃ o : Obj, A.heap[r]? = some o ∧ o.isCells = false := fun r e => (hr r e).2
  obtain ⟨c0, c1, c2, c3, c4, c5, c6, cx, cr, fr, cn, fn, lt, kb⟩ := hs
  exact ⟨m, hr0, cell_kept c0 hg hk, cell_kept c1 hg hk, cell_kept c2 hg hk, cell_kept c3 hg hk, cell_kept c4 hg hk, cell_kept c5 hg hk, cell_kept c6 hg hk, cell_kept cx hg hk, cell_kept cr hg hk, (frozen_kept cr hg hk).trans fr, cell_kept cn hg hk, (frozen_kept cn hg hk).trans fn, Nat.lt_of_lt_of_le lt hg.size, kb.grown hg kb.size (fun k e => Nat.le_trans hB (hr k e).1)⟩
theorem At.set {w W : World} {a b c d e f g x m : Int} (h : At w a b c d e f g x m W) (m' : Int) : At w a b c d e f g x m' (W.setCell ⟨w.heap.size + 1 + 1 + 1 + 1 + 1, 0, none⟩ (.int .i64 m')) := by
  obtain ⟨c0, c1, c2, c3, c4, c5, c6, cx, cr, fr, cn, fn, lt, kb⟩ := h
  refine ⟨?_, ?_, ?_, ?_, ?_, ?_, ?_, ?_, ?_, ?_, ?_, ?_, ?_, ?_⟩
  all_goals first | (simp [go_sem]; done) | (rw [World.cell?_setCell_other _ _ _ _ (by simp)]; assumption) | (rw [World.frozen?_setCell]; assumption) | (simpa [World.setCell] using lt) | exact kb.setCell (p := ⟨w.heap.size + 1 + 1 + 1 + 1 + 1, 0, none⟩) (by show _ ≤ w.heap.size + 1 + 1 + 1 + 1 + 1; omega) _ | exact World.cell?_setCell_same' _ _ _ (by rw [cn]; rfl)
def Rounds (x : Int) (pre : List (Two x)) (m : Int) : Prop := (pre = [] ∧ m = 0) ∨ (pre = [t0 x] ∧ m = 1) ∨ (pre = [t0 x, t1 x] ∧ m = 2)
theorem At.start (w : World) (a b c d e f g x : Int) : At w a b c d e f g x 0 ((((((w.alloc (.cells #[.int .i64 a, .int .i64 b, .int .i64 c, .int .i64 d, .int .i64 e, .int .i64 f, .int .i64 g] 23)).alloc (.cells #[.int .i64 x] 3)).alloc (.cells #[.bool false] 4)).alloc (.cells #[.int .i64 a, .int .i64 b, .int .i64 c, .int .i64 d, .int .i64 e, .int .i64 f, .int .i64 g] 23)).alloc (.cells #[.int .i64 x] 3)).alloc (.cells #[.int .i64 0] 3)) := by
  have K : Below w.heap.size w ((((((w.alloc (.cells #[.int .i64 a, .int .i64 b, .int .i64 c, .int .i64 d, .int .i64 e, .int .i64 f, .int .i64 g] 23)).alloc (.cells #[.int .i64 x] 3)).alloc (.cells #[.bool false] 4)).alloc (.cells #[.int .i64 a, .int .i64 b, .int .i64 c, .int .i64 d, .int .i64 e, .int .i64 f, .int .i64 g] 23)).alloc (.cells #[.int .i64 x] 3)).alloc (.cells #[.int .i64 0] 3)) := by repeat (first | exact Below.refl _ _ | refine Below.alloc ?_ (by simp; try omega) _)
  refine ⟨?_, ?_, ?_, ?_, ?_, ?_, ?_, ?_, ?_, ?_, ?_, ?_, ?_, K⟩ <;> simp [go_sem]
end Go.Proofs.Ytgdbjkkhmamdmaa
