/- What is common to two laws of stage 3. No condition. -/
import Derived.Test.YtpabnkbpklggnaaDoorTDJ
namespace Go.Proofs.YtpabnkbpklggnaaDoor
open Go.RowKit
set_option linter.unusedVariables false
set_option maxRecDepth 100000

/-! What is common to the laws of stage 3. -/
theorem valOf_range {l : List Int} (h : ∀ x ∈ l, (Lit.int .i64 x).wf = true) (i : Nat) : -9223372036854775808 ≤ (valOf l).I i ∧ (valOf l).I i ≤ 9223372036854775807 := by
  simp only [valOf]
  cases e : l[i]? with
  | none => simp
  | some z =>
    have := h z (List.mem_of_getElem? e)
    simp only [Option.getD_some]
    simp only [Lit.wf] at this
    revert this
    simp [IntKind.min, IntKind.max, IntKind.bits, IntKind.signed]
noncomputable def sId (i : Nat) : IE := .at i
noncomputable def sOf (l : List IE) (i : Nat) : IE := l.getD i (.lit 0)
noncomputable def IE.small : IE → Bool
  | .lit n => decide (-9223372036854775808 ≤ n) && decide (n ≤ 9223372036854775807)
  | .at _ => true
  | _ => false
theorem small_range {I : Nat → Int} (h : ∀ i, -9223372036854775808 ≤ I i ∧ I i ≤ 9223372036854775807) {e : IE} (k : e.small = true) : -9223372036854775808 ≤ e.den I ∧ e.den I ≤ 9223372036854775807 := by
  cases e with
  | lit n => simp only [IE.small, Bool.and_eq_true, decide_eq_true_eq] at k; exact k
  | «at» i => exact h i
  | bin o k' a b => cases k
  | conv k' a => cases k
theorem sOf_range {I : Nat → Int} (h : ∀ i, -9223372036854775808 ≤ I i ∧ I i ≤ 9223372036854775807) {l : List IE} (hl : l.all IE.small = true) (i : Nat) : -9223372036854775808 ≤ (sOf l i).den I ∧ (sOf l i).den I ≤ 9223372036854775807 := by
  simp only [sOf, List.getD_eq_getElem?_getD]
  cases e : l[i]? with
  | none => simp [IE.den]
  | some x => exact small_range h (List.all_eq_true.1 hl x (List.mem_of_getElem? e))
end Go.Proofs.YtpabnkbpklggnaaDoor
