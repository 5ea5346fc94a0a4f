/- Rows: cells written, rows made shorter. -/
import Derived.Test.YtfikiophfphmbaaC4
import Derived.WalkKit
import Derived.WalkSpells
import Derived.ProofKit
import Derived.Outline
import Derived.Handy
import Derived.RowKit3
import Derived.BigQuiet
import Derived.Deep.QuietTactic
import Derived.Deep.RegionHeld3
import Derived.Deep.Draws
import Derived.Deep.RegionLaw
import Derived.RegionTactic
import Derived.BigRegion
import Derived.IntWalk
import Derived.LoopTactic
import Derived.OwnWalk
import Derived.Laws.AppendOwn
import Derived.Laws.OwnMore
import Derived.Laws.MakeOwn
import Derived.Laws.Pointers
import Derived.Maps.AppendAt
import Derived.Deep.AppendLies
import Derived.Below
namespace Go.Proofs.Ytfikiophfphmbaa
open Go.RowKit
set_option linter.unusedVariables false
set_option maxRecDepth 100000

theorem row_put {e : TypeId} {size g n cap base : Nat} (news : List Value) : ∀ (w : World) (o : Nat) (xs : List Value), w.ownsRow base e size (.slice (some ⟨g, 0, none⟩) n cap) n xs → o + news.length ≤ xs.length →
    (w.setCells g o news).ownsRow base e size (.slice (some ⟨g, 0, none⟩) n cap) n (xs.take o ++ news ++ xs.drop (o + news.length)) ∧ Fr (fun k => k = g) w (w.setCells g o news) := by
  induction news with
  | nil => intro w o xs h _; exact ⟨by simpa [World.setCells] using h, Fr.refl _ _⟩
  | cons u r ih =>
    intro w o xs h hl
    simp only [List.length_cons] at hl
    have h1 := h.stored o u
    have h2 := ih _ (o + 1) _ h1.1 (by simp; omega)
    refine ⟨?_, (Fr.of_grown' (S := fun k => k = g) h1.2 (fun E hE _ => by injection hE with hE; exact hE.symm)).trans h2.2 (fun _ _ e => e)⟩
    have e1 : (xs.set o u).take (o + 1) = xs.take o ++ [u] := by
      rw [List.take_add_one, List.getElem?_set_self (by omega), List.take_set_of_le (Nat.le_refl _)]
      rfl
    have e2 : (xs.set o u).drop (o + 1 + r.length) = xs.drop (o + (r.length + 1)) := by
      rw [List.drop_set_of_lt (by omega), show o + 1 + r.length = o + (r.length + 1) by omega]
    have := h2.1
    rw [e1, e2] at this
    simpa [World.setCells] using this
theorem row_short {e : TypeId} {size g n m cap base : Nat} {w : World} {xs : List Value} (h : w.ownsRow base e size (.slice (some ⟨g, 0, none⟩) n cap) n xs) (hm : m ≤ n) : w.ownsRow base e size (.slice (some ⟨g, 0, none⟩) m cap) m (xs.take (m * size)) := by
  have hl : m * size ≤ n * size := Nat.mul_le_mul_right _ hm
  rcases h.2 with ⟨h', _⟩ | ⟨g', cap', cur, h', hb, hg, hnc, hcm, hcs, htake⟩
  · simp at h'
  · simp only [Value.slice.injEq, Option.some.injEq, Addr.mk.injEq, and_true, true_and] at h'
    obtain ⟨rfl, rfl⟩ := h'
    refine ⟨by rw [List.length_take, h.1]; omega, .inr ⟨g, cap, cur, rfl, hb, hg, Nat.le_trans hm hnc, hcm, hcs, ?_⟩⟩
    rw [← htake, List.take_take, Nat.min_eq_left hl]
end Go.Proofs.Ytfikiophfphmbaa
