/- Begin, Ask, Walked: errors. -/
import Derived.Test.YtfikiophfphmbaaC4
import Derived.WalkKit
import Derived.WalkSpells
import Derived.ProofKit
import Derived.Outline
import Derived.Handy
import Derived.RowKit3
import Derived.BigQuiet
import Derived.Deep.QuietTactic
import Derived.Deep.RegionHeld3
import Derived.Deep.Draws
import Derived.Deep.RegionLaw
import Derived.RegionTactic
import Derived.BigRegion
import Derived.IntWalk
import Derived.LoopTactic
import Derived.OwnWalk
import Derived.Laws.AppendOwn
import Derived.Laws.OwnMore
import Derived.Laws.MakeOwn
import Derived.Laws.Pointers
import Derived.Maps.AppendAt
import Derived.Deep.AppendLies
import Derived.Below
namespace Go.Proofs.Ytfikiophfphmbaa
open Go.RowKit
set_option linter.unusedVariables false
set_option maxRecDepth 100000

section
variable {P en gs : Nat} {ws st : Bool} {gr at_ : Int} {v : Value} {ks : List (Int × Int)}
set_option maxHeartbeats 2000000 in
theorem begin_range (g : Int) (hg : ¬ (0 ≤ g ∧ g < gs)) (w : World) (h : Ck w P ws st gr at_ en gs v ks) : Calls Try.prog 13 #[.pointer (some ⟨P, 0, none⟩), .int .i64 g] w fun r w' => r = .returned (.tuple #[.int .i64 0, .int .i64 10]) ∧ Below w.heap.size w w' := by
  have H := hide h
  have HG := hide hg
  clear h hg
  go_enter Try.func13, Try.ntmps13
  go_wp2_with fail
  refine (has_any g false (by simpa using HG.out) _ H.out).mono ?_
  rintro r w1 ⟨rfl, hb1⟩
  have HB := hide hb1
  clear hb1
  go_wp2
  go_ret2
  exact ⟨rfl, HB.out⟩
set_option maxHeartbeats 2000000 in
theorem begin_there (g o : Int) (i : Nat) (hg : 0 ≤ g ∧ g < gs) (hi : ks[i]? = some (g, o)) (hno : ∀ j x, j < i → ks[j]? = some x → x.1 ≠ g) (w : World) (h : Ck w P ws st gr at_ en gs v ks) : Calls Try.prog 13 #[.pointer (some ⟨P, 0, none⟩), .int .i64 g] w fun r w' => r = .returned (.tuple #[.int .i64 0, .int .i64 13]) ∧ Below w.heap.size w w' := by
  have H := hide h
  have HI := hide hi
  have HN := hide hno
  have HG := hide hg
  clear h hi hno hg
  go_enter Try.func13, Try.ntmps13
  go_wp2_with fail
  refine (has_any g true (by simpa using HG.out) _ H.out).mono ?_
  rintro r w1 ⟨rfl, hb1⟩
  have H1 := hide (H.out.next hb1)
  go_wp2_with fail
  refine (owner_yes g o i HI.out HN.out _ H1.out).mono ?_
  rintro r w2 ⟨rfl, hb2⟩
  have B2 := hide (below_step hb1 hb1.size hb2)
  clear hb1 hb2
  go_wp2
  go_ret2
  exact ⟨rfl, B2.out⟩
set_option maxHeartbeats 2000000 in
theorem begin_walks (g : Int) (hg : 0 ≤ g ∧ g < gs) (hno : ∀ x ∈ ks, x.1 ≠ g) (w : World) (h : Ck w P true st gr at_ en gs v ks) : Calls Try.prog 13 #[.pointer (some ⟨P, 0, none⟩), .int .i64 g] w fun r w' => r = .returned (.tuple #[.int .i64 0, .int .i64 16]) ∧ Below w.heap.size w w' := by
  have H := hide h
  have HN := hide hno
  have HG := hide hg
  clear h hno hg
  go_enter Try.func13, Try.ntmps13
  go_wp2_with fail
  refine (has_any g true (by simpa using HG.out) _ H.out).mono ?_
  rintro r w1 ⟨rfl, hb1⟩
  have H1 := hide (H.out.next hb1)
  go_wp2_with fail
  refine (owner_no g HN.out _ H1.out).mono ?_
  rintro r w2 ⟨rfl, hb2⟩
  have B2 := hide (below_step hb1 hb1.size hb2)
  have c0 := H1.out.c0
  have d0 := (H1.out.next hb2).c0
  clear hb1 hb2 c0
  go_wp2
  go_ret2
  exact ⟨rfl, B2.out⟩
set_option maxHeartbeats 2000000 in
theorem ask_range (wd g : Int) (hg : ¬ ((0 ≤ g ∧ g < gs) ∧ 0 ≤ wd ∧ wd ≤ 3)) (w : World) (h : Ck w P ws st gr at_ en gs v ks) : Calls Try.prog 22 #[.pointer (some ⟨P, 0, none⟩), .int .i64 wd, .int .i64 g] w fun r w' => r = .returned (.tuple #[.int .i64 0, .int .i64 10]) ∧ Below w.heap.size w w' := by
  have H := hide h
  by_cases h1 : 0 ≤ g ∧ g < gs
  · have h2 : ¬ (0 ≤ wd ∧ wd ≤ 3) := fun e => hg ⟨h1, e⟩
    have HG := hide h1
    clear h hg h1
    by_cases h3 : wd < 0
    · go_enter Try.func22, Try.ntmps22
      go_wp2_with fail
      refine (has_any g true (by simpa using HG.out) _ H.out).mono ?_
      rintro r w1 ⟨rfl, hb1⟩
      have HB := hide hb1
      clear hb1
      go_wp2
      go_ret2
      exact ⟨rfl, HB.out⟩
    · have h4 : 3 < wd := by omega
      clear h2
      go_enter Try.func22, Try.ntmps22
      go_wp2_with fail
      refine (has_any g true (by simpa using HG.out) _ H.out).mono ?_
      rintro r w1 ⟨rfl, hb1⟩
      have HB := hide hb1
      clear hb1
      go_wp2
      go_ret2
      exact ⟨rfl, HB.out⟩
  · have HG := hide h1
    clear h hg h1
    go_enter Try.func22, Try.ntmps22
    go_wp2_with fail
    refine (has_any g false (by simpa using HG.out) _ H.out).mono ?_
    rintro r w1 ⟨rfl, hb1⟩
    have HB := hide hb1
    clear hb1
    go_wp2
    go_ret2
    exact ⟨rfl, HB.out⟩
set_option maxHeartbeats 2000000 in
theorem walked_state (a word : Int) (w : World) (h : Ck w P false st gr at_ en gs v ks) : Calls Try.prog 15 #[.pointer (some ⟨P, 0, none⟩), .int .i64 a, .int .i64 word] w fun r w' => r = .returned (.tuple #[.int .i64 0, .bool false, .int .i64 16]) ∧ Below w.heap.size w w' := by
  have c0 := h.c0
  clear h
  go_enter Try.func15, Try.ntmps15
  go_wp2
  go_ret3
  exact ⟨rfl, Below.refl _ _⟩
set_option maxHeartbeats 2000000 in
theorem walked_arg (a word : Int) (ha : a ≠ at_) (w : World) (h : Ck w P true st gr at_ en gs v ks) : Calls Try.prog 15 #[.pointer (some ⟨P, 0, none⟩), .int .i64 a, .int .i64 word] w fun r w' => r = .returned (.tuple #[.int .i64 0, .bool false, .int .i64 1]) ∧ Below w.heap.size w w' := by
  have c0 := h.c0
  have c3 := h.c3
  have e1 : (a == at_) = false := beq_eq_false_iff_ne.2 ha
  have e2 : (a != at_) = true := bne_iff_ne.2 ha
  clear h ha
  go_enter Try.func15, Try.ntmps15
  go_wp2
  go_ret3
  exact ⟨rfl, Below.refl _ _⟩
end
end Go.Proofs.Ytfikiophfphmbaa
