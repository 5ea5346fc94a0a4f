/- Drop, its cases. -/
import Derived.Test.YtfikiophfphmbaaD2
import Derived.Test.YtfikiophfphmbaaP1
import Derived.WalkKit
import Derived.WalkSpells
import Derived.ProofKit
import Derived.Outline
import Derived.Handy
import Derived.RowKit3
import Derived.BigQuiet
import Derived.Deep.QuietTactic
import Derived.Deep.RegionHeld3
import Derived.Deep.Draws
import Derived.Deep.RegionLaw
import Derived.RegionTactic
import Derived.BigRegion
import Derived.IntWalk
import Derived.LoopTactic
import Derived.OwnWalk
import Derived.Laws.AppendOwn
import Derived.Laws.OwnMore
import Derived.Laws.MakeOwn
import Derived.Laws.Pointers
import Derived.Maps.AppendAt
import Derived.Deep.AppendLies
import Derived.Below
import Derived.Laws.EntriesVeiled
namespace Go.Proofs.Ytfikiophfphmbaa
open Go.RowKit
set_option linter.unusedVariables false
set_option maxRecDepth 100000

section
variable {P en gs : Nat} {ws st : Bool} {gr at_ : Int} {v : Value} {ks : List (Int × Int)}
set_option maxHeartbeats 2000000 in
theorem drop_range (g : Int) (hg : ¬ (0 ≤ g ∧ g < gs)) (hm : g ≠ -1) (w : World) (h : Ck w P ws st gr at_ en gs v ks) : Calls Try.prog 12 #[.pointer (some ⟨P, 0, none⟩), .int .i64 g] w fun r w' => r = .returned (.tuple #[.int .i64 0, .int .i64 10]) ∧ Below w.heap.size w w' := by
  have H := hide h
  have HG := hide hg
  have e1 : (g != -1) = true := bne_iff_ne.2 hm
  clear h hg hm
  go_enter Try.func12, Try.ntmps12
  go_wp2_with fail
  refine (has_any g false (by simpa using HG.out) _ (H.out.next ((Below.refl _ _).alloc (Nat.le_refl _) _))).mono ?_
  rintro r w1 ⟨rfl, hb1⟩
  have HB := hide (below_alloc hb1)
  clear hb1
  go_wp2
  go_ret2
  exact ⟨rfl, HB.out⟩
end
end Go.Proofs.Ytfikiophfphmbaa
