/- Drop where nothing matches. -/
import Derived.Test.YtfikiophfphmbaaC4
import Derived.WalkKit
import Derived.WalkSpells
import Derived.ProofKit
import Derived.Outline
import Derived.Handy
import Derived.RowKit3
import Derived.BigQuiet
import Derived.Deep.QuietTactic
import Derived.Deep.RegionHeld3
import Derived.Deep.Draws
import Derived.Deep.RegionLaw
import Derived.RegionTactic
import Derived.BigRegion
import Derived.IntWalk
import Derived.LoopTactic
import Derived.OwnWalk
import Derived.Laws.AppendOwn
import Derived.Laws.OwnMore
import Derived.Laws.MakeOwn
import Derived.Laws.Pointers
import Derived.Maps.AppendAt
import Derived.Deep.AppendLies
import Derived.Below
import Derived.Laws.EntriesVeiled
namespace Go.Proofs.Ytfikiophfphmbaa
open Go.RowKit
set_option linter.unusedVariables false
set_option maxRecDepth 100000

section
variable {P en gs : Nat} {ws st : Bool} {gr at_ : Int} {v : Value} {ks : List (Int × Int)}
theorem meant_is (b x : Int) (B : Nat) (r : Bool) (hb : b ≠ -1) (hr : (x == b) = r) (w : World) (hB : w.cell? ⟨B, 0, none⟩ = some (.int .i64 b)) : Calls Try.prog 29 #[.int .i64 x, .pointer (some ⟨B, 0, none⟩)] w fun r' w' => r' = .returned (.bool r) ∧ Below w.heap.size w w' := by
  have e : (b == -1) = false := beq_eq_false_iff_ne.2 hb
  have HR := hide hr
  clear hr
  go_enter Try.func29, Try.ntmps29
  go_wp2
  go_ret
  exact ⟨ret_bool (by simpa [e] using HR.out), Below.refl _ _⟩
theorem meant2_is (b x y : Int) (B X : Nat) (r : Bool) (hb : b ≠ -1) (hr : (x == b) = r) (w : World) (hBl : B < w.heap.size) (hXl : X < w.heap.size) (hB : w.cell? ⟨B, 0, none⟩ = some (.int .i64 b)) (hX : w.cell? ⟨X, 0, none⟩ = some (.func (.func 29) #[] #[.pointer (some ⟨B, 0, none⟩)])) : Calls Try.prog 31 #[.agg #[.int .i64 x, .int .i64 y], .pointer (some ⟨X, 0, none⟩)] w fun r' w' => r' = .returned (.bool r) ∧ Below w.heap.size w w' := by
  have HR := hide hr
  clear hr
  go_enter Try.func31, Try.ntmps31
  go_wp2_with fail
  refine (meant_is b x B r hb HR.out _ ((World.cell?_alloc_lt w _ ⟨B, 0, none⟩ hBl).trans hB)).mono ?_
  rintro r1 w1 ⟨rfl, hb1⟩
  go_wp2
  go_ret
  exact ⟨rfl, below_alloc hb1⟩
set_option maxHeartbeats 2000000 in
theorem idx_no (b : Int) (B X : Nat) (hb : b ≠ -1) (hno : ∀ x ∈ ks, x.1 ≠ b) (w : World) (h : Ck w P ws st gr at_ en gs v ks) (hBl : B < w.heap.size) (hXl : X < w.heap.size) (hB : w.cell? ⟨B, 0, none⟩ = some (.int .i64 b)) (hX : w.cell? ⟨X, 0, none⟩ = some (.func (.func 29) #[] #[.pointer (some ⟨B, 0, none⟩)])) : Calls Try.prog 43 #[v, .func (.func 31) #[] #[.pointer (some ⟨X, 0, none⟩)]] w fun r w' => r = .returned (.int .i64 (-1)) ∧ Below w.heap.size w w' := by
  have hl := h.le
  have he := h.e8
  rcases h.form with ⟨rfl, rfl⟩ | ⟨g0, cp, rfl, k1, k2, k3, -, k4⟩
  · clear h
    go_enter Try.func43, Try.ntmps43
    go_wp2
    go_loopw [8] (fun v8 wr => v8 = .int .i64 0 ∧ wr = w) (fun _ _ => 0)
    case atStart => exact ⟨rfl, rfl⟩
    case round =>
      obtain ⟨rfl, rfl⟩ := hrel
      go_wp2
      go_ret
      exact ⟨rfl, Below.refl _ _⟩
  · have K4 := hide k4
    have HN := hide hno
    clear h k4 hno
    go_enter Try.func43, Try.ntmps43
    go_wp2
    go_loopw [8] (fun v8 wr => ∃ k : Nat, k ≤ ks.length ∧ v8 = .int .i64 k ∧ Below w.heap.size w wr) (fun v8 _ => ks.length - (intOf v8).toNat)
    case atStart => exact ⟨0, Nat.zero_le _, rfl, Below.refl _ _⟩
    case round =>
      obtain ⟨k, hk, rfl, hB'⟩ := hrel
      by_cases hlt : k < ks.length
      · obtain ⟨x, hx⟩ : ∃ x, ks[k]? = some x := ⟨ks[k], List.getElem?_eq_getElem hlt⟩
        obtain ⟨e0, e1⟩ := kcells_get ks k x hx
        have z0 := cell_next hB' k3 (K4.out _ _ e0)
        have z1 := cell_next hB' k3 (K4.out _ _ e1)
        have hne := HN.out x (List.mem_of_getElem? hx)
        have hn2 := hide (beq_eq_false_iff_ne.2 hne)
        have HB := hide hB'
        have hs := hB'.size
        have q0 := hide (cell_next hB' hBl hB)
        have q1 := hide (cell_next hB' hXl hX)
        clear hB' hx e0 e1 hne
        go_wp2_with fail
        refine (meant2_is b x.1 x.2 B X false hb hn2.out _ (by omega) (by omega) q0.out q1.out).mono ?_
        rintro r1 w1 ⟨rfl, hb1⟩
        go_wp2
        go_roundw
        case rel => exact ⟨k + 1, by omega, int_eq (by omega), below_step HB.out hs hb1⟩
        case measure => simp [intOf]; omega
      · go_wp2
        go_ret
        exact ⟨rfl, hB'⟩
theorem del_no (b : Int) (B X : Nat) (hb : b ≠ -1) (hno : ∀ x ∈ ks, x.1 ≠ b) (w : World) (h : Ck w P ws st gr at_ en gs v ks) (hBl : B < w.heap.size) (hXl : X < w.heap.size) (hB : w.cell? ⟨B, 0, none⟩ = some (.int .i64 b)) (hX : w.cell? ⟨X, 0, none⟩ = some (.func (.func 29) #[] #[.pointer (some ⟨B, 0, none⟩)])) : Calls Try.prog 30 #[v, .func (.func 31) #[] #[.pointer (some ⟨X, 0, none⟩)]] w fun r w' => r = .returned v ∧ Below w.heap.size w w' := by
  have hD := idx_no b B X hb hno w h hBl hXl hB hX
  obtain ⟨v', hv⟩ : ∃ v', v' = v := ⟨v, rfl⟩
  subst hv
  have HD := hide hD
  clear hD h hno
  go_enter Try.func30, Try.ntmps30
  go_wp2_with fail
  refine HD.out.mono ?_
  rintro r1 w1 ⟨rfl, hb1⟩
  go_wp2
  go_ret
  exact ⟨rfl, hb1⟩
end
end Go.Proofs.Ytfikiophfphmbaa
