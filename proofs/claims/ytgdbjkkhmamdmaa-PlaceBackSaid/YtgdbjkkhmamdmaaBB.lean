/- What the walk of PlaceBack holds on to. -/
import Derived.Test.YtgdbjkkhmamdmaaBA
import Derived.Test.YtgdbjkkhmamdmaaI2
import Derived.RangeFuncNested
import Derived.RangeFuncBound
import Derived.RangeFuncCalls
import Derived.RangeFuncLeaves
import Derived.Shelf.Abstract
import Derived.Shelf.RegionOpen
import Derived.WalkKit
import Derived.WalkSpells
import Derived.ProofKit
import Derived.OwnWalkIn
import Derived.TacticsInMore
import Derived.LoopNIn
import Derived.LoopIn
import Derived.Outline
import Derived.IntWalk
import Derived.LoopTactic
import Derived.Deep.RegionHeld3
import Derived.Deep.Draws
import Derived.BigQuiet
import Derived.Deep.QuietTactic
import Derived.Below
namespace Go.Proofs.Ytgdbjkkhmamdmaa
open Go.RowKit Go.Shelf
attribute [local go_sem] Oper.semAt_some
set_option linter.unusedVariables false
set_option maxRecDepth 100000
/-- What the walk of PlaceBack holds on to, ahead of its second loop. -/
structure P0 (w0 W : World) (a b c d e f g : Int) : Prop where
  box : Box W w0.heap.size a b c d e f g
  r : W.cell? ⟨w0.heap.size + 1, 0, none⟩ = some (.bool false)
  rf : W.frozen? ⟨w0.heap.size + 1, 0, none⟩ = false
  lt : w0.heap.size + 1 < W.heap.size
  bel : Below w0.heap.size w0 W
theorem P0.next {w0 W W' : World} {a b c d e f g : Int} (h : P0 w0 W a b c d e f g) (hb : Below W.heap.size W W') : P0 w0 W' a b c d e f g :=
  ⟨h.box.next hb, cell_next hb h.lt h.r, (hb.frozen (p := ⟨w0.heap.size + 1, 0, none⟩) h.lt).trans h.rf, Nat.lt_of_lt_of_le h.lt hb.size, below_step h.bel h.bel.size hb⟩
theorem P0.start (w : World) (a b c d e f g : Int) : P0 w ((w.alloc (.cells #[.int .i64 a, .int .i64 b, .int .i64 c, .int .i64 d, .int .i64 e, .int .i64 f, .int .i64 g] 23)).alloc (.cells #[.bool false] 4)) a b c d e f g :=
  ⟨(Box.new w a b c d e f g 23).alloc _, by simp [go_sem], by simp [go_sem], by simp, ((Below.refl _ _).alloc (Nat.le_refl _) _).alloc (by simp) _⟩
def upd (φ : Nat → Int) (i : Nat) (x : Int) : Nat → Int := fun j => if j = i then x else φ j
/-- And in it. -/
structure Pb (w0 W : World) (a b c d e f g : Int) (M : Nat) (φ : Nat → Int) (s : Int) : Prop where
  p : P0 w0 W a b c d e f g
  bk : ∀ j, j < 4 → W.cell? ⟨M, j, none⟩ = some (.int .i64 (φ j))
  bf : ∀ j, j < 4 → W.frozen? ⟨M, j, none⟩ = false
  se : W.cell? ⟨M + 1, 0, none⟩ = some (.int .i64 s)
  sf : W.frozen? ⟨M + 1, 0, none⟩ = false
  hM : w0.heap.size + 1 < M
  lt : M + 1 < W.heap.size
section
variable {w0 W W' : World} {a b c d e f g s : Int} {M : Nat} {φ : Nat → Int}
theorem P0.fr {S : Nat → Prop} (h : P0 w0 W a b c d e f g) (k : Fr S W W') (hn : ∀ i, S i → w0.heap.size + 1 < i) : P0 w0 W' a b c d e f g := by
  have lt := h.lt
  have n0 : ¬ S w0.heap.size := fun e => by have := hn _ e; omega
  have n1 : ¬ S (w0.heap.size + 1) := fun e => by have := hn _ e; omega
  obtain ⟨q, c0, c1, c2, c3, c4, c5, c6⟩ := h.box
  exact ⟨⟨Nat.lt_of_lt_of_le q k.size, (k.cell q n0).trans c0, (k.cell q n0).trans c1, (k.cell q n0).trans c2, (k.cell q n0).trans c3, (k.cell q n0).trans c4, (k.cell q n0).trans c5, (k.cell q n0).trans c6⟩, (k.cell lt n1).trans h.r, (k.frozen lt n1).trans h.rf, Nat.lt_of_lt_of_le lt k.size, h.bel.trans (k.below h.bel.size (fun i hi e => by have := hn i e; omega))⟩
theorem Pb.fr {S : Nat → Prop} (h : Pb w0 W a b c d e f g M φ s) (k : Fr S W W') (hn : ∀ i, S i → M + 1 < i) : Pb w0 W' a b c d e f g M φ s := by
  have lt := h.lt
  have hM := h.hM
  have n0 : ¬ S M := fun e => by have := hn _ e; omega
  have n1 : ¬ S (M + 1) := fun e => by have := hn _ e; omega
  exact ⟨h.p.fr k (fun i hi => by have := hn i hi; omega), fun j hj => (k.cell (by omega) n0).trans (h.bk j hj), fun j hj => (k.frozen (by omega) n0).trans (h.bf j hj), (k.cell lt n1).trans h.se, (k.frozen lt n1).trans h.sf, hM, Nat.lt_of_lt_of_le lt k.size⟩
theorem Pb.next (h : Pb w0 W a b c d e f g M φ s) (hb : Below W.heap.size W W') : Pb w0 W' a b c d e f g M φ s := h.fr (Fr.of_below (S := fun _ => False) hb) (fun _ e => e.elim)
theorem Pb.setb (h : Pb w0 W a b c d e f g M φ s) (i : Nat) (z : Int) (hi : i < 4) : Pb w0 (W.setCell ⟨M, i, none⟩ (.int .i64 z)) a b c d e f g M (upd φ i z) s := by
  have hM := h.hM
  have lt := h.lt
  have k : Fr (fun j => j = M) W (W.setCell ⟨M, i, none⟩ (.int .i64 z)) := (Fr.refl (fun j => j = M) W).setCell (p := ⟨M, i, none⟩) (fun _ => rfl) _
  refine ⟨h.p.fr k (fun j hj => by omega), fun j hj => ?_, fun j hj => by simpa [World.frozen?_setCell] using h.bf j hj, (setCell_cell_other (by simp)).trans h.se, by simpa [World.frozen?_setCell] using h.sf, hM, by simpa [World.setCell] using lt⟩
  unfold upd
  by_cases e : j = i
  · subst e
    rw [if_pos rfl]
    exact World.cell?_setCell_same' _ _ _ (by rw [h.bk j hj]; rfl)
  · rw [if_neg e]
    exact (setCell_cell_other (by intro e2; injection e2; omega)).trans (h.bk j hj)
theorem Pb.sets (h : Pb w0 W a b c d e f g M φ s) (z : Int) : Pb w0 (W.setCell ⟨M + 1, 0, none⟩ (.int .i64 z)) a b c d e f g M φ z := by
  have hM := h.hM
  have lt := h.lt
  have k : Fr (fun j => j = M + 1) W (W.setCell ⟨M + 1, 0, none⟩ (.int .i64 z)) := (Fr.refl (fun j => j = M + 1) W).setCell (p := ⟨M + 1, 0, none⟩) (fun _ => rfl) _
  exact ⟨h.p.fr k (fun j hj => by omega), fun j hj => (setCell_cell_other (by simp)).trans (h.bk j hj), fun j hj => by simpa [World.frozen?_setCell] using h.bf j hj, World.cell?_setCell_same' _ _ _ (by rw [h.se]; rfl), by simpa [World.frozen?_setCell] using h.sf, hM, by simpa [World.setCell] using lt⟩
end
/-- Of the first n lines each bank has so many. -/
def Cnt (G n : Nat) (φ : Nat → Int) : Prop := ∀ j, j < G → φ j = (((n + (G - 1 - j)) / G : Nat) : Int)
theorem Cnt.step {G n : Nat} {φ : Nat → Int} (h1 : 1 ≤ G) (h4 : G ≤ 4) (h : Cnt G n φ) : Cnt G (n + 1) (upd φ (n % G) (φ (n % G) + 1)) := by
  intro j hj
  have a1 := h j hj
  have a2 := h (n % G) (Nat.mod_lt _ (by omega))
  unfold upd
  have hG : G = 1 ∨ G = 2 ∨ G = 3 ∨ G = 4 := by omega
  rcases hG with rfl | rfl | rfl | rfl <;> (split <;> (try rw [a2]) <;> (try rw [a1]) <;> omega)
theorem Cnt.bd {G n : Nat} {φ : Nat → Int} (h1 : 1 ≤ G) (h4 : G ≤ 4) (hn : n ≤ 64) (h : Cnt G n φ) (j : Nat) (hj : j < G) : 0 ≤ φ j ∧ φ j ≤ 64 ∧ φ 0 - 1 ≤ φ j ∧ φ j ≤ φ 0 := by
  have a1 := h j hj
  have a0 := h 0 (by omega)
  rw [a0, a1]
  have hG : G = 1 ∨ G = 2 ∨ G = 3 ∨ G = 4 := by omega
  rcases hG with rfl | rfl | rfl | rfl <;> omega
theorem Pb.start {w0 W : World} {a b c d e f g : Int} {cs : Array Value} (hcs : cs = Array.replicate 4 (.int .i64 0)) (h : P0 w0 W a b c d e f g) : Pb w0 ((W.alloc (.cells cs 43)).alloc (.cells #[.int .i64 0] 3)) a b c d e f g W.heap.size (fun _ => 0) 0 := by
  have b1 : Below W.heap.size W (W.alloc (.cells cs 43)) := (Below.refl _ _).alloc (Nat.le_refl _) _
  have b2 : Below (W.alloc (.cells cs 43)).heap.size (W.alloc (.cells cs 43)) ((W.alloc (.cells cs 43)).alloc (.cells #[.int .i64 0] 3)) := (Below.refl _ _).alloc (Nat.le_refl _) _
  have e1 : (W.alloc (.cells cs 43)).heap.size = W.heap.size + 1 := by simp
  refine ⟨h.next (b1.trans (b2.mono (by simp))), fun j hj => ?_, fun j hj => ?_, ?_, ?_, h.lt, by simp⟩
  · refine cell_next b2 (by simp) ?_
    rw [World.cell?_alloc_new W cs 43 j, hcs]
    simp [hj]
  · exact (b2.frozen (p := ⟨W.heap.size, j, none⟩) (by simp)).trans (World.frozen?_alloc_new _ _ _ _)
  · rw [← e1]; simp [go_sem]
  · rw [← e1]; exact World.frozen?_alloc_new _ _ _ _
end Go.Proofs.Ytgdbjkkhmamdmaa
