/- New, Room, Len, walked. -/
import Derived.Test.YtopfbmgmpihcnaaK
import Derived.WalkKit
import Derived.WalkSpells
import Derived.ProofKit
import Derived.Outline
import Derived.Handy
import Derived.RowKit3
import Derived.BigQuiet
import Derived.Deep.QuietTactic
import Derived.Deep.RegionHeld3
import Derived.Deep.Draws
import Derived.Deep.RegionLaw
import Derived.RegionTactic
import Derived.BigRegion
import Derived.IntWalk
import Derived.LoopTactic
import Derived.OwnWalk
import Derived.Laws.AppendOwn
import Derived.Laws.OwnMore
import Derived.Laws.MakeOwn
import Derived.Laws.Pointers
import Derived.Maps.AppendAt
import Derived.Deep.AppendLies
import Derived.Below
namespace Go.Proofs.Ytopfbmgmpihcnaa
open Go.RowKit
set_option linter.unusedVariables false
set_option maxRecDepth 100000


theorem new_yes (d : Nat) (h1 : 1 ≤ d) (h2 : d ≤ 16) (w : World) : Calls Try.prog 7 #[.int .i64 d] w fun r w' => ∃ P, r = .returned (.tuple #[.pointer (some ⟨P, 0, none⟩), .int .i64 0]) ∧ La w' P d (.slice none 0 0) [] ∧ w.heap.size ≤ P ∧ Below w.heap.size w w' := by
  go_enter Try.func7, Try.ntmps7
  go_wp2
  go_ret2
  exact ⟨w.heap.size, rfl, ⟨by simp, by simp [go_sem], by simp [go_sem], by simp [go_sem], World.ownsRow_nil _ _ _ _, by simp [Value.ownBlock], Nat.zero_le _, h2⟩, Nat.le_refl _, (Below.refl _ _).alloc (Nat.le_refl _) _⟩
theorem new_no (d : Int) (h : ¬ (1 ≤ d ∧ d ≤ 16)) (w : World) : Calls Try.prog 7 #[.int .i64 d] w fun r w' => r = .returned (.tuple #[.pointer none, .int .i64 10]) ∧ w = w' := by
  by_cases h1 : d < 1
  · clear h
    go_enter Try.func7, Try.ntmps7
    go_wp2
    go_ret2
    exact ⟨rfl, rfl⟩
  · have h2 : 16 < d := by omega
    clear h
    go_enter Try.func7, Try.ntmps7
    go_wp2
    go_ret2
    exact ⟨rfl, rfl⟩
theorem room_any {P d : Nat} {v : Value} {ns : List Nt} (w : World) (h : La w P d v ns) : Calls Try.prog 17 #[.pointer (some ⟨P, 0, none⟩)] w fun r w' => r = .returned (.int .i64 ((d : Int) - ns.length)) ∧ Below w.heap.size w w' := by
  have c0 := h.c0
  have c1 := h.c1
  have hd := h.d16
  have hl := h.le
  rcases h.form with ⟨rfl, rfl⟩ | ⟨g, cp, rfl, h1, h2, h3⟩
  · clear h
    go_enter Try.func17, Try.ntmps17
    go_wp2_with (go_quiet (fail))
    go_ret
    exact ⟨ret_int (by simp), below_drewN (Below.refl _ _) _⟩
  · clear h
    have e : IntKind.i64.wrap ((d : Int) - ns.length) = (d : Int) - ns.length := IntWalk.i64_in _ (by omega)
    go_enter Try.func17, Try.ntmps17
    go_wp2_with (go_quiet (fail))
    go_ret
    exact ⟨ret_int (by first | rfl | exact e | exact wrap64_in _ (by omega)), below_drewN (Below.refl _ _) _⟩
theorem len_any {P d : Nat} {v : Value} {ns : List Nt} (w : World) (h : La w P d v ns) : Calls Try.prog 19 #[.pointer (some ⟨P, 0, none⟩)] w fun r w' => r = .returned (.int .i64 (ns.length : Int)) ∧ Below w.heap.size w w' := by
  have c1 := h.c1
  rcases h.form with ⟨rfl, rfl⟩ | ⟨g, cp, rfl, h1, h2, h3⟩
  · clear h
    go_enter Try.func19, Try.ntmps19
    go_wp2
    go_ret
    exact ⟨rfl, Below.refl _ _⟩
  · clear h
    go_enter Try.func19, Try.ntmps19
    go_wp2
    go_ret
    exact ⟨rfl, Below.refl _ _⟩
end Go.Proofs.Ytopfbmgmpihcnaa
