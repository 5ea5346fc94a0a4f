/- Notes written and left out. -/
import Derived.Test.YtopfbmgmpihcnaaE
import Derived.WalkKit
import Derived.WalkSpells
import Derived.ProofKit
import Derived.Outline
import Derived.Handy
import Derived.RowKit3
import Derived.BigQuiet
import Derived.Deep.QuietTactic
import Derived.Deep.RegionHeld3
import Derived.Deep.Draws
import Derived.Deep.RegionLaw
import Derived.RegionTactic
import Derived.BigRegion
import Derived.IntWalk
import Derived.LoopTactic
import Derived.OwnWalk
import Derived.Laws.AppendOwn
import Derived.Laws.OwnMore
import Derived.Laws.MakeOwn
import Derived.Laws.Pointers
import Derived.Maps.AppendAt
import Derived.Deep.AppendLies
import Derived.Below
namespace Go.Proofs.Ytopfbmgmpihcnaa
open Go.RowKit
set_option linter.unusedVariables false
set_option maxRecDepth 100000


def putL (w : World) (T : Nat) : Nat → List Value → World
  | _, [] => w
  | o, v :: vs => putL (w.setCell ⟨T, o, none⟩ v) T (o + 1) vs
theorem putL_far (T : Nat) (vs : List Value) : ∀ (w : World) (o p j : Nat), (p ≠ T ∨ j < o) → (putL w T o vs).cell? ⟨p, j, none⟩ = w.cell? ⟨p, j, none⟩ := by
  induction vs with
  | nil => intro w o p j _; rfl
  | cons v vs ih =>
    intro w o p j h
    show (putL (w.setCell ⟨T, o, none⟩ v) T (o + 1) vs).cell? _ = _
    rw [ih _ _ _ _ (by omega)]
    exact setCell_cell_other (by intro e; injection e with e1 e2; omega)
theorem putL_cell (T : Nat) (vs : List Value) : ∀ (w : World) (o : Nat), (∀ i, i < vs.length → (w.cell? ⟨T, o + i, none⟩).isSome) → ∀ i u, vs[i]? = some u → (putL w T o vs).cell? ⟨T, o + i, none⟩ = some u := by
  induction vs with
  | nil => intro w o _ i u h; simp at h
  | cons v vs ih =>
    intro w o h i u hu
    show (putL (w.setCell ⟨T, o, none⟩ v) T (o + 1) vs).cell? _ = _
    cases i with
    | zero =>
      simp at hu
      subst hu
      rw [Nat.add_zero, putL_far T vs _ _ _ _ (.inr (by omega))]
      exact World.cell?_setCell_same' _ _ _ (by simpa using h 0 (by simp))
    | succ i =>
      simp at hu
      have := ih (w.setCell ⟨T, o, none⟩ v) (o + 1) (fun j hj => by
        rw [setCell_cell_other (by intro e; injection e with e1 e2; omega)]
        have := h (j + 1) (by simp; omega)
        rw [show o + 1 + j = o + (j + 1) by omega]; exact this) i u hu
      rw [show o + (i + 1) = o + 1 + i by omega]; exact this
theorem putL_frozen (T : Nat) (vs : List Value) : ∀ (w : World) (o : Nat) (a : Addr), (putL w T o vs).frozen? a = w.frozen? a := by
  induction vs with
  | nil => intro w o a; rfl
  | cons v vs ih => intro w o a; show (putL (w.setCell ⟨T, o, none⟩ v) T (o + 1) vs).frozen? _ = _; rw [ih]; exact World.frozen?_setCell _ _ _ _
theorem putL_fr (T : Nat) (S : Nat → Prop) (hS : S T) (vs : List Value) : ∀ (w : World) (o : Nat), Fr S w (putL w T o vs) := by
  induction vs with
  | nil => intro w o; exact Fr.refl _ _
  | cons v vs ih => intro w o; exact ((Fr.refl S w).setCell (p := ⟨T, o, none⟩) (fun _ => hS) v).trans (ih _ _) (fun _ _ h => h)
/-- Nine cells that may be written, and hold a note. -/
structure NtW (w : World) (T : Nat) (x : Nt) : Prop where
  hT : T < w.heap.size
  c : NtAt w T 0 x
  f : ∀ t, t < 9 → w.frozen? ⟨T, t, none⟩ = false
theorem NtAt.fr {w w' : World} {T o : Nat} {x : Nt} {S : Nat → Prop} (h : NtAt w T o x) (f : Fr S w w') (hT : T < w.heap.size) (hS : ¬ S T) : NtAt w' T o x := by
  obtain ⟨a0, a1, a2, a3, a4, a5, a6, a7, a8⟩ := h
  exact ⟨(f.cell hT hS).trans a0, (f.cell hT hS).trans a1, (f.cell hT hS).trans a2, (f.cell hT hS).trans a3, (f.cell hT hS).trans a4, (f.cell hT hS).trans a5, (f.cell hT hS).trans a6, (f.cell hT hS).trans a7, (f.cell hT hS).trans a8⟩
theorem NtW.fr {w w' : World} {T : Nat} {x : Nt} {S : Nat → Prop} (h : NtW w T x) (f : Fr S w w') (hS : ¬ S T) : NtW w' T x :=
  ⟨Nat.lt_of_lt_of_le h.hT f.size, h.c.fr f h.hT hS, fun t ht => (f.frozen h.hT hS).trans (h.f t ht)⟩
theorem NtW.next {w w' : World} {T : Nat} {x : Nt} (h : NtW w T x) (hb : Below w.heap.size w w') : NtW w' T x := h.fr (Fr.of_below (S := fun _ => False) hb) id
theorem NtW.put {w : World} {T : Nat} {y : Nt} (h : NtW w T y) (x : Nt) : NtW (putL w T 0 x.cs) T x := by
  obtain ⟨a0, a1, a2, a3, a4, a5, a6, a7, a8⟩ := h.c
  have some : ∀ i, i < x.cs.length → (w.cell? ⟨T, 0 + i, none⟩).isSome := fun i hi => by
    rw [Nat.zero_add]
    have : i = 0 ∨ i = 1 ∨ i = 2 ∨ i = 3 ∨ i = 4 ∨ i = 5 ∨ i = 6 ∨ i = 7 ∨ i = 8 := by rw [Nt.cs_len] at hi; omega
    rcases this with rfl | rfl | rfl | rfl | rfl | rfl | rfl | rfl | rfl
    · rw [a0]; rfl
    · rw [show (1 : Nat) = 0 + 1 from rfl, a1]; rfl
    · rw [show (2 : Nat) = 0 + 2 from rfl, a2]; rfl
    · rw [show (3 : Nat) = 0 + 3 from rfl, a3]; rfl
    · rw [show (4 : Nat) = 0 + 4 from rfl, a4]; rfl
    · rw [show (5 : Nat) = 0 + 5 from rfl, a5]; rfl
    · rw [show (6 : Nat) = 0 + 6 from rfl, a6]; rfl
    · rw [show (7 : Nat) = 0 + 7 from rfl, a7]; rfl
    · rw [show (8 : Nat) = 0 + 8 from rfl, a8]; rfl
  have g := putL_cell T x.cs w 0 some
  exact ⟨Nat.lt_of_lt_of_le h.hT (putL_fr T (fun k => k = T) rfl x.cs w 0).size, ⟨g 0 _ rfl, g 1 _ rfl, g 2 _ rfl, g 3 _ rfl, g 4 _ rfl, g 5 _ rfl, g 6 _ rfl, g 7 _ rfl, g 8 _ rfl⟩, fun t ht => (putL_frozen T _ _ _ _).trans (h.f t ht)⟩
theorem ntw_new (w : World) (x : Nt) (t : TypeId) : NtW (w.alloc (.cells x.arr t)) w.heap.size x :=
  ⟨by simp, ⟨by simp [go_sem], by simp [go_sem], by simp [go_sem], by simp [go_sem], by simp [go_sem], by simp [go_sem], by simp [go_sem], by simp [go_sem], by simp [go_sem]⟩, fun t _ => World.frozen?_alloc_new _ _ _ _⟩
/-- The first k notes without the one at a. -/
def left (ns : List Nt) (a k : Nat) : List Nt := (ns.take k).eraseIdx a
theorem left_snoc (ns : List Nt) (a k : Nat) (x : Nt) (hx : ns[k]? = some x) (hk : k ≠ a) : left ns a (k + 1) = left ns a k ++ [x] := by
  have hlt : k < ns.length := (List.getElem?_eq_some_iff.1 hx).1
  unfold left
  rw [List.take_add_one, hx]
  show (ns.take k ++ [x]).eraseIdx a = _
  by_cases h : a < k
  · rw [List.eraseIdx_append_of_lt_length (by rw [List.length_take]; omega)]
  · rw [List.eraseIdx_of_length_le (l := ns.take k) (by rw [List.length_take]; omega), List.eraseIdx_of_length_le (by rw [List.length_append, List.length_take]; simp; omega)]
theorem left_at (ns : List Nt) (a : Nat) (x : Nt) (hx : ns[a]? = some x) : left ns a (a + 1) = left ns a a := by
  have hlt : a < ns.length := (List.getElem?_eq_some_iff.1 hx).1
  unfold left
  rw [List.take_add_one, hx]
  show (ns.take a ++ [x]).eraseIdx a = _
  rw [List.eraseIdx_append_of_length_le (by rw [List.length_take]; omega), List.eraseIdx_of_length_le (l := ns.take a) (by rw [List.length_take]; omega)]
  have : a - (ns.take a).length = 0 := by rw [List.length_take]; omega
  rw [this]; simp
theorem left_len (ns : List Nt) (a k : Nat) : (left ns a k).length ≤ ns.length := by
  unfold left
  exact Nat.le_trans (List.length_eraseIdx_le _ _) (by rw [List.length_take]; omega)
theorem left_all (ns : List Nt) (a : Nat) : left ns a ns.length = ns.eraseIdx a := by unfold left; rw [List.take_length]
end Go.Proofs.Ytopfbmgmpihcnaa
