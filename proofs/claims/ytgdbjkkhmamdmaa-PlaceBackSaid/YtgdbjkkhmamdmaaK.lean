/- Small facts on worlds: a box of seven numbers that is kept behind calls that turn nothing that was there. -/
import Derived.WalkKit
import Derived.Below
import Derived.ProofKit
import Derived.Deep.Draws
namespace Go.Proofs.Ytgdbjkkhmamdmaa
open Go.RowKit
theorem ret_int {k : IntKind} {a b : Int} (h : a = b) : Ending.returned (.int k a) = .returned (.int k b) := by rw [h]
theorem hide {p : Prop} (h : p) : Hid p := h
theorem ret_bool {a b : Bool} (h : a = b) : Ending.returned (.bool a) = .returned (.bool b) := by rw [h]
/-- Block p holds seven numbers. -/
def Box (w : World) (p : Nat) (a b c d e f g : Int) : Prop :=
  p < w.heap.size ∧ w.cell? ⟨p, 0, none⟩ = some (.int .i64 a) ∧ w.cell? ⟨p, 1, none⟩ = some (.int .i64 b) ∧ w.cell? ⟨p, 2, none⟩ = some (.int .i64 c) ∧ w.cell? ⟨p, 3, none⟩ = some (.int .i64 d) ∧ w.cell? ⟨p, 4, none⟩ = some (.int .i64 e) ∧ w.cell? ⟨p, 5, none⟩ = some (.int .i64 f) ∧ w.cell? ⟨p, 6, none⟩ = some (.int .i64 g)
theorem Box.new (w : World) (a b c d e f g : Int) (t : TypeId) : Box (w.alloc (.cells #[.int .i64 a, .int .i64 b, .int .i64 c, .int .i64 d, .int .i64 e, .int .i64 f, .int .i64 g] t)) w.heap.size a b c d e f g := by
  refine ⟨by simp, ?_, ?_, ?_, ?_, ?_, ?_, ?_⟩ <;> simp [go_sem]
theorem cell_next {w w' : World} {p o : Nat} {v : Value} (h : Below w.heap.size w w') (hp : p < w.heap.size) (hc : w.cell? ⟨p, o, none⟩ = some v) : w'.cell? ⟨p, o, none⟩ = some v :=
  (h.cell (p := ⟨p, o, none⟩) hp).trans hc
theorem Box.next {w w' : World} {p : Nat} {a b c d e f g : Int} (h : Box w p a b c d e f g) (hb : Below w.heap.size w w') : Box w' p a b c d e f g := by
  obtain ⟨hp, h0, h1, h2, h3, h4, h5, h6⟩ := h
  exact ⟨Nat.lt_of_lt_of_le hp hb.size, cell_next hb hp h0, cell_next hb hp h1, cell_next hb hp h2, cell_next hb hp h3, cell_next hb hp h4, cell_next hb hp h5, cell_next hb hp h6⟩
theorem Box.alloc {w : World} {p : Nat} {a b c d e f g : Int} (h : Box w p a b c d e f g) (o : Obj) : Box (w.alloc o) p a b c d e f g :=
  h.next ((Below.refl _ _).alloc (Nat.le_refl _) _)
theorem below_alloc {w w' : World} {o : Obj} (h : Below (w.alloc o).heap.size (w.alloc o) w') : Below w.heap.size w w' :=
  ((Below.refl _ _).alloc (Nat.le_refl _) _).trans (h.mono (by simp))
theorem below_drewN {B : Nat} {a w : World} (h : Below B a w) (n : Nat) : Below B a (w.drewN n) := ⟨h.os, h.tape, h.output, h.size, h.block⟩
theorem below_step {B : Nat} {a w w' : World} (h : Below B a w) (hB : B ≤ w.heap.size) (k : Below w.heap.size w w') : Below B a w' := h.trans (k.mono hB)
end Go.Proofs.Ytgdbjkkhmamdmaa
