/- The example. -/
import Derived.Test.YtfikiophfphmbaaD2
import Derived.WalkKit
import Derived.WalkSpells
import Derived.ProofKit
import Derived.Outline
import Derived.Handy
import Derived.RowKit3
import Derived.BigQuiet
import Derived.Deep.QuietTactic
import Derived.Deep.RegionHeld3
import Derived.Deep.Draws
import Derived.Deep.RegionLaw
import Derived.RegionTactic
import Derived.BigRegion
import Derived.IntWalk
import Derived.LoopTactic
import Derived.OwnWalk
import Derived.Laws.AppendOwn
import Derived.Laws.OwnMore
import Derived.Laws.MakeOwn
import Derived.Laws.Pointers
import Derived.Maps.AppendAt
import Derived.Deep.AppendLies
import Derived.Below
import Derived.Laws.EntriesVeiled
namespace Go.Proofs.Ytfikiophfphmbaa
open Go.RowKit
set_option linter.unusedVariables false
set_option maxRecDepth 100000

section
variable {P : Nat} {ws st : Bool} {gr at_ : Int} {v : Value}
theorem aw1 (w : World) (h : Ck w P false st gr at_ 1 5 v []) : Calls Try.prog 13 #[.pointer (some ⟨P, 0, none⟩), .int .i64 1] w fun r w' => r = .returned (.tuple #[.int .i64 0, .int .i64 0]) ∧ Ck w' P true false 1 0 1 5 v [] ∧ Fr (fun k => k = P) w w' := begin_yes 1 (by omega) (by simp) w h
theorem aw2 (w : World) (h : Ck w P true false 1 0 1 5 v []) : Calls Try.prog 15 #[.pointer (some ⟨P, 0, none⟩), .int .i64 0, .int .i64 9] w fun r w' => r = .returned (.tuple #[.int .i64 3, .bool false, .int .i64 0]) ∧ Ck w' P true false 1 3 1 5 v [] ∧ Fr (fun k => k = P) w w' := walked_next 3 9 (fun W => next_part 5 1 0 2 (by omega) (by omega) (by omega) rfl rfl W) w h
theorem aw3 (w : World) (h : Ck w P true false 1 3 1 5 v []) : Calls Try.prog 15 #[.pointer (some ⟨P, 0, none⟩), .int .i64 3, .int .i64 2] w fun r w' => r = .returned (.tuple #[.int .i64 0, .bool true, .int .i64 0]) ∧ ∃ v', Ck w' P false false 0 0 1 5 v' [(1, 2)] ∧ Fr (Ck.S P v) w w' ∧ ∀ k, Ck.S P v' k → Ck.S P v k ∨ w.heap.size ≤ k := walked_done 0 2 2 (fun W => next_own 5 1 0 2 2 (by omega) (by omega) (by omega) (by omega) (by omega) rfl rfl W) (by simp) w h
theorem aw4 (w : World) (h : Ck w P ws st gr at_ 1 5 v [(1, 2)]) : Calls Try.prog 22 #[.pointer (some ⟨P, 0, none⟩), .int .i64 2, .int .i64 1] w fun r w' => r = .returned (.tuple #[.int .i64 1, .int .i64 0]) ∧ Below w.heap.size w w' := ask_known 2 1 2 true 0 (by omega) (by omega) rfl (fun j x hj => absurd hj (Nat.not_lt_zero _)) (by decide) w h
theorem aw5 (w : World) (h : Ck w P ws st gr at_ 1 5 v [(1, 2)]) : Calls Try.prog 22 #[.pointer (some ⟨P, 0, none⟩), .int .i64 1, .int .i64 1] w fun r w' => r = .returned (.tuple #[.int .i64 2, .int .i64 0]) ∧ Below w.heap.size w w' := ask_known 1 1 2 false 0 (by omega) (by omega) rfl (fun j x hj => absurd hj (Nat.not_lt_zero _)) (by decide) w h
theorem aw6 (w : World) (h : Ck w P ws st gr at_ 1 5 v [(1, 2)]) : Calls Try.prog 22 #[.pointer (some ⟨P, 0, none⟩), .int .i64 2, .int .i64 0] w fun r w' => r = .returned (.tuple #[.int .i64 3, .int .i64 0]) ∧ Below w.heap.size w w' := ask_miss 2 0 (by omega) (by omega) (by simp) w h
theorem aw7 (w : World) (h : Ck w P false st gr at_ 1 5 v [(1, 2)]) : Calls Try.prog 13 #[.pointer (some ⟨P, 0, none⟩), .int .i64 0] w fun r w' => r = .returned (.tuple #[.int .i64 0, .int .i64 0]) ∧ Ck w' P true false 0 0 1 5 v [(1, 2)] ∧ Fr (fun k => k = P) w w' := begin_yes 0 (by omega) (by simp) w h
theorem aw8 (w : World) (h : Ck w P true st 0 at_ 1 5 v [(1, 2)]) : Calls Try.prog 12 #[.pointer (some ⟨P, 0, none⟩), .int .i64 0] w fun r w' => r = .returned (.tuple #[.int .i64 0, .int .i64 0]) ∧ Ck w' P true true 0 at_ 1 5 v [(1, 2)] ∧ Fr (fun k => k = P) w w' := drop_walk w 0 (by omega) (by simp) h
theorem aw9 (w : World) (h : Ck w P true true 0 0 1 5 v [(1, 2)]) : Calls Try.prog 15 #[.pointer (some ⟨P, 0, none⟩), .int .i64 0, .int .i64 8] w fun r w' => r = .returned (.tuple #[.int .i64 0, .bool false, .int .i64 0]) ∧ Ck w' P true false 0 0 1 5 v [(1, 2)] ∧ Fr (fun k => k = P) w w' := walked_stale 8 0 rfl (by omega) w h
end
set_option maxHeartbeats 8000000 in
theorem awake_ok (w : World) : Calls Try.prog 8 #[] w fun r w' => r = .returned (.bool true) ∧ Below w.heap.size w w' := by
  go_enter Try.func8, Try.ntmps8
  go_wp2_with fail
  refine (new_yes 1 5 (by omega) (by omega) (by omega) (by omega) _).mono ?_
  rintro r w1 ⟨P, rfl, h1, hP, b1⟩
  have H1 := hide h1
  have F1 := hide (Fr.of_below (S := fun k => w.heap.size ≤ k) b1)
  clear h1 b1
  go_wp2_with fail
  refine (aw1 _ H1.out).mono ?_
  rintro r w2 ⟨rfl, h2, f2⟩
  have H2 := hide h2
  have F2 := hide (F1.out.trans f2 (fun _ _ e => by subst e; exact hP))
  clear h2 f2 H1
  go_wp2_with fail
  refine (aw2 _ H2.out).mono ?_
  rintro r w3 ⟨rfl, h3, f3⟩
  have H3 := hide h3
  have F3 := hide (F2.out.trans f3 (fun _ _ e => by subst e; exact hP))
  clear h3 f3 H2
  go_wp2_with fail
  refine (aw3 _ H3.out).mono ?_
  rintro r w4 ⟨rfl, v4, h4, f4, s4⟩
  have H4 := hide h4
  have F4 := hide (F3.out.trans f4 (fun _ _ e => by rcases e with e | e; (subst e; exact hP); exact absurd e (by simp [Value.ownBlock])))
  clear h4 f4 H3 s4
  go_wp2_with fail
  refine (aw4 _ H4.out).mono ?_
  rintro r w5 ⟨rfl, b5⟩
  have H5 := hide (H4.out.next b5)
  have F5 := hide (F4.out.trans (Fr.of_below (S := fun k => w.heap.size ≤ k) b5) (fun _ _ e => e))
  clear b5 H4
  go_wp2_with fail
  refine (aw5 _ H5.out).mono ?_
  rintro r w6 ⟨rfl, b6⟩
  have H6 := hide (H5.out.next b6)
  have F6 := hide (F5.out.trans (Fr.of_below (S := fun k => w.heap.size ≤ k) b6) (fun _ _ e => e))
  clear b6 H5
  go_wp2_with fail
  refine (aw6 _ H6.out).mono ?_
  rintro r w7 ⟨rfl, b7⟩
  have H7 := hide (H6.out.next b7)
  have F7 := hide (F6.out.trans (Fr.of_below (S := fun k => w.heap.size ≤ k) b7) (fun _ _ e => e))
  clear b7 H6
  go_wp2_with fail
  refine (aw7 _ H7.out).mono ?_
  rintro r w8 ⟨rfl, h8, f8⟩
  have H8 := hide h8
  have F8 := hide (F7.out.trans f8 (fun _ _ e => by subst e; exact hP))
  clear h8 f8 H7
  go_wp2_with fail
  refine (aw8 _ H8.out).mono ?_
  rintro r w9 ⟨rfl, h9, f9⟩
  have H9 := hide h9
  have F9 := hide (F8.out.trans f9 (fun _ _ e => by subst e; exact hP))
  clear h9 f9 H8
  go_wp2_with fail
  refine (aw9 _ H9.out).mono ?_
  rintro r w10 ⟨rfl, h10, f10⟩
  have F10 := hide (F9.out.trans f10 (fun _ _ e => by subst e; exact hP))
  clear h10 f10 H9
  go_wp2
  go_ret
  exact ⟨rfl, F10.out.below (Nat.le_refl _) (fun i hi e => by omega)⟩
end Go.Proofs.Ytfikiophfphmbaa
