/- What the last part of PlaceBack holds on to. -/
import Derived.Test.YtgdbjkkhmamdmaaBB
import Derived.RangeFuncNested
import Derived.RangeFuncBound
import Derived.RangeFuncCalls
import Derived.RangeFuncLeaves
import Derived.Shelf.Abstract
import Derived.Shelf.RegionOpen
import Derived.WalkKit
import Derived.WalkSpells
import Derived.ProofKit
import Derived.OwnWalkIn
import Derived.TacticsInMore
import Derived.LoopNIn
import Derived.LoopIn
import Derived.Outline
import Derived.IntWalk
import Derived.LoopTactic
import Derived.Deep.RegionHeld3
import Derived.Deep.Draws
import Derived.BigQuiet
import Derived.Deep.QuietTactic
import Derived.Below
namespace Go.Proofs.Ytgdbjkkhmamdmaa
open Go.RowKit Go.Shelf
attribute [local go_sem] Oper.semAt_some
set_option linter.unusedVariables false
set_option maxRecDepth 100000
/-- What the last part of PlaceBack holds on to. -/
structure Ls (w0 W : World) (a b c d e f g : Int) (M : Nat) (φ : Nat → Int) (s : Int) (Ds : List Nat) : Prop where
  box : Box W w0.heap.size a b c d e f g
  r : ∃ v, W.cell? ⟨w0.heap.size + 1, 0, none⟩ = some v
  rf : W.frozen? ⟨w0.heap.size + 1, 0, none⟩ = false
  lt : w0.heap.size + 1 < W.heap.size
  bk : ∀ j, j < 4 → W.cell? ⟨M, j, none⟩ = some (.int .i64 (φ j))
  se : W.cell? ⟨M + 1, 0, none⟩ = some (.int .i64 s)
  hM : w0.heap.size + 1 < M
  ml : M + 1 < W.heap.size
  bel : Below w0.heap.size w0 W
  ds : ∀ D ∈ Ds, W.heap[D]? = some (.deferred (some []))
  lo : ∀ D ∈ Ds, w0.heap.size + 1 < D
section
variable {w0 W W' : World} {a b c d e f g s : Int} {M : Nat} {φ : Nat → Int} {Ds : List Nat}
theorem Ls.next (h : Ls w0 W a b c d e f g M φ s Ds) (hb : Below W.heap.size W W') : Ls w0 W' a b c d e f g M φ s Ds := by
  have ml := h.ml
  obtain ⟨v, hr⟩ := h.r
  exact ⟨h.box.next hb, ⟨v, cell_next hb h.lt hr⟩, (hb.frozen (p := ⟨w0.heap.size + 1, 0, none⟩) h.lt).trans h.rf, Nat.lt_of_lt_of_le h.lt hb.size, fun j hj => cell_next hb (by omega) (h.bk j hj), cell_next hb ml h.se, h.hM, Nat.lt_of_lt_of_le ml hb.size, below_step h.bel h.bel.size hb, fun D hD => (hb.block D (Array.getElem?_eq_some_iff.1 (h.ds D hD)).1).trans (h.ds D hD), h.lo⟩
theorem Ls.setr (h : Ls w0 W a b c d e f g M φ s Ds) (v : Value) : Ls w0 (W.setCell ⟨w0.heap.size + 1, 0, none⟩ v) a b c d e f g M φ s Ds := by
  have hM := h.hM
  obtain ⟨u, hr⟩ := h.r
  obtain ⟨q, c0, c1, c2, c3, c4, c5, c6⟩ := h.box
  have o : ∀ j, (W.setCell ⟨w0.heap.size + 1, 0, none⟩ v).cell? ⟨w0.heap.size, j, none⟩ = W.cell? ⟨w0.heap.size, j, none⟩ := fun j => setCell_cell_other (by simp)
  refine ⟨⟨by simpa [World.setCell] using q, (o 0).trans c0, (o 1).trans c1, (o 2).trans c2, (o 3).trans c3, (o 4).trans c4, (o 5).trans c5, (o 6).trans c6⟩, ⟨v, World.cell?_setCell_same' _ _ _ (by rw [hr]; rfl)⟩, by simpa [World.frozen?_setCell] using h.rf, by simpa [World.setCell] using h.lt, fun j hj => (setCell_cell_other (by intro e; injection e; omega)).trans (h.bk j hj), (setCell_cell_other (by intro e; injection e; omega)).trans h.se, hM, by simpa [World.setCell] using h.ml, h.bel.setCell (by show w0.heap.size ≤ w0.heap.size + 1; omega) _, fun D hD => ?_, h.lo⟩
  have := h.lo D hD
  exact (Below.heap_setCell W ⟨w0.heap.size + 1, 0, none⟩ v D (by show ¬ _ = _; simp; omega)).trans (h.ds D hD)
theorem Ls.both (h : Ls w0 W a b c d e f g M φ s Ds) : (W.cell? ⟨w0.heap.size, 0, none⟩ = some (.int .i64 a) ∧ W.cell? ⟨w0.heap.size, 1, none⟩ = some (.int .i64 b) ∧ W.cell? ⟨w0.heap.size, 2, none⟩ = some (.int .i64 c) ∧ W.cell? ⟨w0.heap.size, 3, none⟩ = some (.int .i64 d) ∧ W.cell? ⟨w0.heap.size, 4, none⟩ = some (.int .i64 e) ∧ W.cell? ⟨w0.heap.size, 5, none⟩ = some (.int .i64 f) ∧ W.cell? ⟨w0.heap.size, 6, none⟩ = some (.int .i64 g) ∧ W.cell? ⟨M + 1, 0, none⟩ = some (.int .i64 s)) ∧ Ls w0 W a b c d e f g M φ s Ds := by
  obtain ⟨q, c0, c1, c2, c3, c4, c5, c6⟩ := h.box
  exact ⟨⟨c0, c1, c2, c3, c4, c5, c6, h.se⟩, h⟩
end
theorem below_drew0 {B : Nat} {a w : World} (h : Below B a w) : Below B a w.drew := ⟨h.os, h.tape, h.output, h.size, h.block⟩
def RQ (w0 : World) (a b c d e f g : Int) (M : Nat) (φ : Nat → Int) (s : Int) (Ds : List Nat) : Exit → Act → World → Prop
  | .normal, a', W => a'.tmps.getD 2 undef = .pointer (some ⟨w0.heap.size + 1, 0, none⟩) ∧ a'.defers = Ds.map ent ∧ Ls w0 W a b c d e f g M φ s Ds ∧ W.cell? ⟨w0.heap.size + 1, 0, none⟩ = some (.bool true)
  | _, _, _ => False
end Go.Proofs.Ytgdbjkkhmamdmaa
