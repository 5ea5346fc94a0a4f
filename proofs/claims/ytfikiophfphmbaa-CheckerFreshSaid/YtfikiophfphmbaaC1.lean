/- New, has, owner, again, walked. -/
import Derived.Test.YtfikiophfphmbaaT
import Derived.WalkKit
import Derived.WalkSpells
import Derived.ProofKit
import Derived.Outline
import Derived.Handy
import Derived.RowKit3
import Derived.BigQuiet
import Derived.Deep.QuietTactic
import Derived.Deep.RegionHeld3
import Derived.Deep.Draws
import Derived.Deep.RegionLaw
import Derived.RegionTactic
import Derived.BigRegion
import Derived.IntWalk
import Derived.LoopTactic
import Derived.OwnWalk
import Derived.Laws.AppendOwn
import Derived.Laws.OwnMore
import Derived.Laws.MakeOwn
import Derived.Laws.Pointers
import Derived.Maps.AppendAt
import Derived.Deep.AppendLies
import Derived.Below
namespace Go.Proofs.Ytfikiophfphmbaa
open Go.RowKit
set_option linter.unusedVariables false
set_option maxRecDepth 100000

theorem new_yes (en gs : Nat) (h1 : 1 ≤ en) (h2 : en ≤ 8) (h3 : 1 ≤ gs) (h4 : gs ≤ 16) (w : World) : Calls Try.prog 9 #[.int .i64 en, .int .i64 gs] w fun r w' => ∃ P, r = .returned (.tuple #[.pointer (some ⟨P, 0, none⟩), .int .i64 0]) ∧ Ck w' P false false 0 0 en gs (.slice none 0 0) [] ∧ w.heap.size ≤ P ∧ Below w.heap.size w w' := by
  go_enter Try.func9, Try.ntmps9
  go_wp2
  go_ret2
  exact ⟨w.heap.size, rfl, ⟨by simp, by simp [go_sem], by simp [go_sem], by simp [go_sem], by simp [go_sem], by simp [go_sem], by simp [go_sem], by simp [go_sem], fun t ht => World.frozen?_alloc_new _ _ _ _, World.ownsRow_nil _ _ _ _, by simp [Value.ownBlock], h2, h3, h4, Nat.zero_le _⟩, Nat.le_refl _, (Below.refl _ _).alloc (Nat.le_refl _) _⟩
section
variable {P en gs : Nat} {ws st : Bool} {gr at_ : Int} {v : Value} {ks : List (Int × Int)}
theorem has_any (g : Int) (b : Bool) (hb : decide (0 ≤ g ∧ g < gs) = b) (w : World) (h : Ck w P ws st gr at_ en gs v ks) : Calls Try.prog 28 #[.pointer (some ⟨P, 0, none⟩), .int .i64 g] w fun r w' => r = .returned (.bool b) ∧ Below w.heap.size w w' := by
  have c5 := h.c5
  clear h
  by_cases h1 : 0 ≤ g
  · by_cases h2 : g < gs
    · obtain rfl : b = true := by rw [← hb]; simp; omega
      clear hb
      go_enter Try.func28, Try.ntmps28
      go_wp2
      go_ret
      exact ⟨rfl, Below.refl _ _⟩
    · obtain rfl : b = false := by rw [← hb]; simp; omega
      clear hb
      go_enter Try.func28, Try.ntmps28
      go_wp2
      go_ret
      exact ⟨rfl, Below.refl _ _⟩
  · obtain rfl : b = false := by rw [← hb]; simp; omega
    clear hb
    go_enter Try.func28, Try.ntmps28
    go_wp2
    go_ret
    exact ⟨rfl, Below.refl _ _⟩
def OwRel (n : Nat) (ks : List (Int × Int)) (g : Int) (w : World) (v13 : Value) (wr : World) : Prop := ∃ k : Nat, k ≤ n ∧ v13 = .int .i64 k ∧ (∀ j x, j < k → ks[j]? = some x → x.1 ≠ g) ∧ Below w.heap.size w wr
set_option maxHeartbeats 2000000 in
theorem owner_no (g : Int) (hno : ∀ x ∈ ks, x.1 ≠ g) (w : World) (h : Ck w P ws st gr at_ en gs v ks) : Calls Try.prog 32 #[.pointer (some ⟨P, 0, none⟩), .int .i64 g] w fun r w' => r = .returned (.tuple #[.int .i64 0, .bool false]) ∧ Below w.heap.size w w' := by
  have c6 := h.c6
  have hl := h.le
  have he := h.e8
  rcases h.form with ⟨rfl, rfl⟩ | ⟨g0, cp, rfl, k1, k2, k3, -, k4⟩
  · clear h
    go_enter Try.func32, Try.ntmps32
    go_wp2
    go_loopw [13] (fun v13 wr => v13 = .int .i64 0 ∧ wr = w) (fun _ _ => 0)
    case atStart => exact ⟨rfl, rfl⟩
    case round =>
      obtain ⟨rfl, rfl⟩ := hrel
      go_wp2
      go_ret2
      exact ⟨rfl, Below.refl _ _⟩
  · have K4 := hide k4
    have HN := hide hno
    clear h k4 hno
    go_enter Try.func32, Try.ntmps32
    go_wp2
    go_loopw [13] (fun v13 wr => ∃ k : Nat, k ≤ ks.length ∧ v13 = .int .i64 k ∧ Below w.heap.size w wr) (fun v13 _ => ks.length - (intOf v13).toNat)
    case atStart => exact ⟨0, Nat.zero_le _, rfl, Below.refl _ _⟩
    case round =>
      obtain ⟨k, hk, rfl, hB⟩ := hrel
      by_cases hlt : k < ks.length
      · obtain ⟨x, hx⟩ : ∃ x, ks[k]? = some x := ⟨ks[k], List.getElem?_eq_getElem hlt⟩
        obtain ⟨e0, e1⟩ := kcells_get ks k x hx
        have z0 := cell_next hB k3 (K4.out _ _ e0)
        have z1 := cell_next hB k3 (K4.out _ _ e1)
        have hne := HN.out x (List.mem_of_getElem? hx)
        have hn2 : (x.1 == g) = false := beq_eq_false_iff_ne.2 hne
        have HB := hide hB
        have hs := hB.size
        clear hB hx e0 e1
        go_wp2
        go_roundw
        case rel => exact ⟨k + 1, by omega, int_eq (by omega), HB.out.alloc hs _⟩
        case measure => simp [intOf]; omega
      · go_wp2
        go_ret2
        exact ⟨rfl, hB⟩
set_option maxHeartbeats 2000000 in
theorem owner_yes (g o : Int) (i : Nat) (hi : ks[i]? = some (g, o)) (hno : ∀ j x, j < i → ks[j]? = some x → x.1 ≠ g) (w : World) (h : Ck w P ws st gr at_ en gs v ks) : Calls Try.prog 32 #[.pointer (some ⟨P, 0, none⟩), .int .i64 g] w fun r w' => r = .returned (.tuple #[.int .i64 o, .bool true]) ∧ Below w.heap.size w w' := by
  have c6 := h.c6
  have hl := h.le
  have he := h.e8
  have hil : i < ks.length := (List.getElem?_eq_some_iff.1 hi).1
  rcases h.form with ⟨rfl, rfl⟩ | ⟨g0, cp, rfl, k1, k2, k3, -, k4⟩
  · simp at hil
  · have K4 := hide k4
    have HN := hide hno
    have HI := hide hi
    clear h k4 hno hi
    go_enter Try.func32, Try.ntmps32
    go_wp2
    go_loopw [13] (fun v13 wr => ∃ k : Nat, k ≤ i ∧ v13 = .int .i64 k ∧ Below w.heap.size w wr) (fun v13 _ => ks.length - (intOf v13).toNat)
    case atStart => exact ⟨0, Nat.zero_le _, rfl, Below.refl _ _⟩
    case round =>
      obtain ⟨k, hk, rfl, hB⟩ := hrel
      have hlt : k < ks.length := by omega
      obtain ⟨x, hx⟩ : ∃ x, ks[k]? = some x := ⟨ks[k], List.getElem?_eq_getElem hlt⟩
      obtain ⟨e0, e1⟩ := kcells_get ks k x hx
      have z0 := cell_next hB k3 (K4.out _ _ e0)
      have z1 := cell_next hB k3 (K4.out _ _ e1)
      have HB := hide hB
      have hs := hB.size
      by_cases hki : k = i
      · subst hki
        obtain rfl : x = (g, o) := by have := HI.out; rw [hx] at this; injection this
        clear hB hx e0 e1
        go_wp2
        go_ret2
        exact ⟨rfl, HB.out.alloc hs _⟩
      · have hne := HN.out k x (by omega) hx
        have hn2 : (x.1 == g) = false := beq_eq_false_iff_ne.2 hne
        clear hB hx e0 e1
        go_wp2
        go_roundw
        case rel => exact ⟨k + 1, by omega, int_eq (by omega), HB.out.alloc hs _⟩
        case measure => simp [intOf]; omega
theorem again_yes (g : Nat) (hgr : gr = (g : Int)) (hg : g < 16) (w : World) (h : Ck w P ws st gr at_ en gs v ks) : Calls Try.prog 33 #[.pointer (some ⟨P, 0, none⟩)] w fun r w' => r = .returned (.int .i64 ((g / 4 : Nat) : Int)) ∧ Ck w' P ws false gr ((g / 4 : Nat) : Int) en gs v ks ∧ Fr (fun k => k = P) w w' := by
  subst hgr
  have c1 := h.c1
  have c2 := h.c2
  have c3 := h.c3
  have f1 := h.f 1 (by omega)
  have f3 := h.f 3 (by omega)
  have H := hide h
  clear h
  go_enter Try.func33, Try.ntmps33
  go_wp2_with fail
  refine (first_in g hg _).mono ?_
  rintro r w1 ⟨rfl, rfl⟩
  go_wp2
  go_ret
  exact ⟨rfl, (H.out.setAt _).setStale false, ((Fr.refl (fun k => k = P) w).setCell (p := ⟨P, 3, none⟩) (fun _ => rfl) _).setCell (p := ⟨P, 1, none⟩) (fun _ => rfl) _⟩
end
end Go.Proofs.Ytfikiophfphmbaa
