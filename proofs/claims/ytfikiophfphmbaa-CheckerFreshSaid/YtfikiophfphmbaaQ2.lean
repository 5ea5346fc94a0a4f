/- IndexFunc where one matches. -/
import Derived.Test.YtfikiophfphmbaaD1
import Derived.WalkKit
import Derived.WalkSpells
import Derived.ProofKit
import Derived.Outline
import Derived.Handy
import Derived.RowKit3
import Derived.BigQuiet
import Derived.Deep.QuietTactic
import Derived.Deep.RegionHeld3
import Derived.Deep.Draws
import Derived.Deep.RegionLaw
import Derived.RegionTactic
import Derived.BigRegion
import Derived.IntWalk
import Derived.LoopTactic
import Derived.OwnWalk
import Derived.Laws.AppendOwn
import Derived.Laws.OwnMore
import Derived.Laws.MakeOwn
import Derived.Laws.Pointers
import Derived.Maps.AppendAt
import Derived.Deep.AppendLies
import Derived.Below
import Derived.Laws.EntriesVeiled
namespace Go.Proofs.Ytfikiophfphmbaa
open Go.RowKit
set_option linter.unusedVariables false
set_option maxRecDepth 100000

section
variable {P en gs : Nat} {ws st : Bool} {gr at_ : Int} {v : Value} {ks : List (Int × Int)}
set_option maxHeartbeats 2000000 in
theorem idx_yes (b o : Int) (i : Nat) (B X : Nat) (hb : b ≠ -1) (hi : ks[i]? = some (b, o)) (hno : ∀ j x, j < i → ks[j]? = some x → x.1 ≠ b) (w : World) (h : Ck w P ws st gr at_ en gs v ks) (hBl : B < w.heap.size) (hXl : X < w.heap.size) (hB : w.cell? ⟨B, 0, none⟩ = some (.int .i64 b)) (hX : w.cell? ⟨X, 0, none⟩ = some (.func (.func 29) #[] #[.pointer (some ⟨B, 0, none⟩)])) : Calls Try.prog 43 #[v, .func (.func 31) #[] #[.pointer (some ⟨X, 0, none⟩)]] w fun r w' => r = .returned (.int .i64 (i : Int)) ∧ Below w.heap.size w w' := by
  have hl := h.le
  have he := h.e8
  have hil : i < ks.length := (List.getElem?_eq_some_iff.1 hi).1
  rcases h.form with ⟨rfl, rfl⟩ | ⟨g0, cp, rfl, k1, k2, k3, -, k4⟩
  · simp at hi
  · have K4 := hide k4
    have HN := hide hno
    have HI := hide hi
    clear h k4 hno hi
    go_enter Try.func43, Try.ntmps43
    go_wp2
    go_loopw [8] (fun v8 wr => ∃ k : Nat, k ≤ i ∧ v8 = .int .i64 k ∧ Below w.heap.size w wr) (fun v8 _ => ks.length - (intOf v8).toNat)
    case atStart => exact ⟨0, Nat.zero_le _, rfl, Below.refl _ _⟩
    case round =>
      obtain ⟨k, hk, rfl, hB'⟩ := hrel
      have hkl : k < ks.length := by omega
      obtain ⟨x, hx⟩ : ∃ x, ks[k]? = some x := ⟨ks[k], List.getElem?_eq_getElem hkl⟩
      obtain ⟨e0, e1⟩ := kcells_get ks k x hx
      have z0 := cell_next hB' k3 (K4.out _ _ e0)
      have z1 := cell_next hB' k3 (K4.out _ _ e1)
      have HB := hide hB'
      have hs := hB'.size
      have q0 := hide (cell_next hB' hBl hB)
      have q1 := hide (cell_next hB' hXl hX)
      by_cases hlt : k < i
      · have hne := HN.out k x hlt hx
        have hn2 := hide (beq_eq_false_iff_ne.2 hne)
        clear hB' hx e0 e1 hne
        go_wp2_with fail
        refine (meant2_is b x.1 x.2 B X false hb hn2.out _ (by omega) (by omega) q0.out q1.out).mono ?_
        rintro r1 w1 ⟨rfl, hb1⟩
        go_wp2
        go_roundw
        case rel => exact ⟨k + 1, by omega, int_eq (by omega), below_step HB.out hs hb1⟩
        case measure => simp [intOf]; omega
      · obtain rfl : k = i := by omega
        have hxe : x = (b, o) := Option.some.inj (hx.symm.trans HI.out)
        subst hxe
        clear hB' hx e0 e1 HI
        go_wp2_with fail
        refine (meant2_is b b o B X true hb (beq_self_eq_true b) _ (by omega) (by omega) q0.out q1.out).mono ?_
        rintro r1 w1 ⟨rfl, hb1⟩
        go_wp2
        go_ret
        exact ⟨rfl, below_step HB.out hs hb1⟩
end
end Go.Proofs.Ytfikiophfphmbaa
