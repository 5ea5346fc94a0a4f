/- BankLast, whole. -/
import Derived.Test.YtofgpcdhgkeccaaA7
import Derived.WalkKit
import Derived.WalkSpells
import Derived.ProofKit
import Derived.Outline
import Derived.Handy
import Derived.RowKit3
import Derived.BigQuiet
import Derived.Deep.QuietTactic
import Derived.Deep.RegionHeld3
import Derived.Deep.Draws
import Derived.Deep.RegionLaw
import Derived.RegionTactic
import Derived.BigRegion
import Derived.IntWalk
import Derived.LoopTactic
import Derived.OwnWalk
import Derived.Laws.AppendOwn
import Derived.Laws.OwnMore
import Derived.Laws.MakeOwn
import Derived.Laws.Pointers
import Derived.Maps.AppendAt
import Derived.Deep.AppendLies
import Derived.Below
namespace Go.Proofs.Ytofgpcdhgkeccaa
open Go.RowKit
set_option linter.unusedVariables false
set_option maxRecDepth 100000


theorem out_bad4 (a b c d e f g : Int) (h : ¬ Ok a b c d e f g) (av : Option Addr) (Ln cc : Nat) (ob od : Int) (w : World) :
    Calls Try.prog 4 #[.agg #[.int .i64 a, .int .i64 b, .int .i64 c, .int .i64 d, .int .i64 e, .int .i64 f, .int .i64 g], .slice av Ln cc, .agg #[.int .i64 ob, .int .i64 od]] w fun r w' => r = .returned (.bool true) ∧ Below w.heap.size w w' := by
  have HQ := hide h
  have B0 := hide (((Below.refl w.heap.size w).alloc (Nat.le_refl _) (.cells #[.int .i64 a, .int .i64 b, .int .i64 c, .int .i64 d, .int .i64 e, .int .i64 f, .int .i64 g] 23)).alloc (by simp) (.cells #[.int .i64 ob, .int .i64 od] 35))
  clear h
  go_enter Try.func4, Try.ntmps4
  go_wp2_with fail
  refine (may_no _ _ _ _ _ _ _ HQ.out _).mono ?_
  rintro r w1 ⟨rfl, hb1⟩
  have B1 := hide (below_step B0.out B0.out.size hb1)
  clear hb1
  go_wp2_with fail
  refine (awake_ok _).mono ?_
  rintro r w2 ⟨rfl, hb2⟩
  have B2 := hide (below_step B1.out B1.out.size hb2)
  clear hb2
  go_wp2
  go_ret
  exact ⟨rfl, B2.out⟩
theorem out_many4 (q : Cfg) (av : Option Addr) (Ln cc : Nat) (hL : Ln ≤ maxLen) (h6 : ¬ Ln ≤ 60) (ob od : Int) (w : World) :
    Calls Try.prog 4 #[q.v, .slice av Ln cc, .agg #[.int .i64 ob, .int .i64 od]] w fun r w' => r = .returned (.bool true) ∧ Below w.heap.size w w' := by
  have HQ := hide q.ok
  have HF := hide (few_v av Ln cc hL false (by simpa using h6))
  have B0 := hide (((Below.refl w.heap.size w).alloc (Nat.le_refl _) (.cells #[.int .i64 q.a, .int .i64 q.b, .int .i64 q.c, .int .i64 q.d, .int .i64 q.e, .int .i64 q.f, .int .i64 q.g] 23)).alloc (by simp) (.cells #[.int .i64 ob, .int .i64 od] 35))
  clear h6
  go_enter Try.func4, Try.ntmps4
  go_wp2_with fail
  refine (may_yes _ _ _ _ _ _ _ HQ.out _).mono ?_
  rintro r w1 ⟨rfl, hb1⟩
  have B1 := hide (below_step B0.out B0.out.size hb1)
  clear hb1
  go_wp2_with fail
  refine (HF.out _).mono ?_
  rintro r w1' ⟨rfl, rfl⟩
  go_wp2_with fail
  refine (awake_ok _).mono ?_
  rintro r w2 ⟨rfl, hb2⟩
  have B2 := hide (below_step B1.out B1.out.size hb2)
  clear hb2
  go_wp2
  go_ret
  exact ⟨rfl, B2.out⟩

theorem last_law (a b c d e f g : Int) (av : Option Addr) (Ln cc : Nat) (hL : Ln ≤ maxLen) (A B C D E : Nat → Int) (ob od : Int) (w : World) (hl : OpsIn w av Ln A B C D E) :
    Calls Try.prog 4 #[.agg #[.int .i64 a, .int .i64 b, .int .i64 c, .int .i64 d, .int .i64 e, .int .i64 f, .int .i64 g], .slice av Ln cc, .agg #[.int .i64 ob, .int .i64 od]] w fun r w' => r = .returned (.bool true) ∧ Below w.heap.size w w' := by
  by_cases h : Ok a b c d e f g
  · by_cases h6 : Ln ≤ 60
    · exact last_ok (cfgOf a b c d e f g h) av Ln cc h6 A B C D E ob od w hl
    · exact out_many4 (cfgOf a b c d e f g h) av Ln cc hL h6 ob od w
  · exact out_bad4 a b c d e f g h av Ln cc ob od w
end Go.Proofs.Ytofgpcdhgkeccaa
