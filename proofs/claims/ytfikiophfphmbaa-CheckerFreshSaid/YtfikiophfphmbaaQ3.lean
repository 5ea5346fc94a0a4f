/- A list whose tail moves down. -/
import Derived.Test.YtfikiophfphmbaaQ2
import Derived.Test.YtfikiophfphmbaaN7
import Derived.WalkKit
import Derived.WalkSpells
import Derived.ProofKit
import Derived.Outline
import Derived.Handy
import Derived.RowKit3
import Derived.BigQuiet
import Derived.Deep.QuietTactic
import Derived.Deep.RegionHeld3
import Derived.Deep.Draws
import Derived.Deep.RegionLaw
import Derived.RegionTactic
import Derived.BigRegion
import Derived.IntWalk
import Derived.LoopTactic
import Derived.OwnWalk
import Derived.Laws.AppendOwn
import Derived.Laws.OwnMore
import Derived.Laws.MakeOwn
import Derived.Laws.Pointers
import Derived.Maps.AppendAt
import Derived.Deep.AppendLies
import Derived.Below
import Derived.Laws.EntriesVeiled
namespace Go.Proofs.Ytfikiophfphmbaa
open Go.RowKit
set_option linter.unusedVariables false
set_option maxRecDepth 100000

theorem kcells_set (L : List (Int × Int)) (k : Nat) (x : Int × Int) : kcells (L.set k x) = ((kcells L).set (k * 2) (.int .i64 x.1)).set (k * 2 + 1) (.int .i64 x.2) := by
  induction L generalizing k with
  | nil => simp [kcells]
  | cons y L ih =>
    cases k with
    | zero => simp [kcells]
    | succ k =>
      have := ih k
      show [Value.int .i64 y.1, .int .i64 y.2] ++ kcells (L.set k x) = (([Value.int .i64 y.1, .int .i64 y.2] ++ kcells L).set ((k + 1) * 2) (.int .i64 x.1)).set ((k + 1) * 2 + 1) (.int .i64 x.2)
      rw [this, show (k + 1) * 2 = k * 2 + 1 + 1 by omega]
      simp
def Mv (ks L : List (Int × Int)) (i p : Nat) : Prop := L.length = ks.length ∧ ∀ t, t < ks.length → L[t]? = if i ≤ t ∧ t < p then ks[t + 1]? else ks[t]?
theorem Mv.step {ks L : List (Int × Int)} {i p : Nat} {x : Int × Int} (h : Mv ks L i p) (hi : i ≤ p) (hx : ks[p + 1]? = some x) : Mv ks (L.set p x) i (p + 1) := by
  refine ⟨by simp [h.1], fun t ht => ?_⟩
  by_cases e : t = p
  · subst e
    rw [List.getElem?_set_self (by rw [h.1]; exact ht), if_pos ⟨hi, by omega⟩, hx]
  · rw [List.getElem?_set_ne (fun q => e q.symm), h.2 t ht]
    by_cases c : i ≤ t ∧ t < p
    · rw [if_pos c, if_pos ⟨c.1, by omega⟩]
    · rw [if_neg c, if_neg (by omega)]
theorem Mv.done {ks L : List (Int × Int)} {i : Nat} (h : Mv ks L i (ks.length - 1)) (hi : i < ks.length) : L.take (ks.length - 1) = ks.eraseIdx i := by
  apply List.ext_getElem?
  intro t
  rw [List.getElem?_take, List.getElem?_eraseIdx]
  by_cases ht : t < ks.length - 1
  · rw [if_pos ht, h.2 t (by omega)]
    by_cases c : t < i
    · rw [if_neg (by omega), if_pos c]
    · rw [if_pos (by omega), if_neg c]
  · rw [if_neg ht]
    by_cases c : t < i
    · omega
    · rw [if_neg c, List.getElem?_eq_none (by omega)]
end Go.Proofs.Ytfikiophfphmbaa
