/- BankApart, whole. -/
import Derived.Test.YtofgpcdhgkeccaaA4
import Derived.WalkKit
import Derived.WalkSpells
import Derived.ProofKit
import Derived.Outline
import Derived.Handy
import Derived.RowKit3
import Derived.BigQuiet
import Derived.Deep.QuietTactic
import Derived.Deep.RegionHeld3
import Derived.Deep.Draws
import Derived.Deep.RegionLaw
import Derived.RegionTactic
import Derived.BigRegion
import Derived.IntWalk
import Derived.LoopTactic
import Derived.OwnWalk
import Derived.Laws.AppendOwn
import Derived.Laws.OwnMore
import Derived.Laws.MakeOwn
import Derived.Laws.Pointers
import Derived.Maps.AppendAt
import Derived.Deep.AppendLies
import Derived.Below
import Derived.Deep.Slices
import Derived.Lib.SmallJoins
import Derived.Deep.Fields
import Derived.ChangeSame
import Derived.OpenShut
namespace Go.Proofs.Ytofgpcdhgkeccaa
open Go.Joins Go.ChangeShapes Go.WideShapes Go.RowKit Go.Deep
set_option linter.unusedVariables false
set_option maxRecDepth 100000


theorem cfg_of {H : Type} {enc : TypeId × Value → H} {W : World} {base b0 : Nat} {spare : Nat → Bool} {held : Bool} {r : Reach} {v : Value} {d : DataW H} {p : List MemPlace} (hv : Value.okWide Try.prog W r b0 23 v) (h : DataW.Trod enc Try.prog W base spare held 23 v d p) :
    ∃ a b c d e f g : Int, v = .agg #[.int .i64 a, .int .i64 b, .int .i64 c, .int .i64 d, .int .i64 e, .int .i64 f, .int .i64 g] := by
  obtain ⟨cs, rfl, hsz⟩ := okWide_struct Try.underlying23 hv
  obtain ⟨fuel, hf⟩ := h
  obtain ⟨xs, n, _, hx, hcl, hlen, hg⟩ := DataW.trod_struct Try.underlying23 hf
  obtain ⟨l⟩ := cs
  have hC : Try.prog.cellsOf 23 = 7 := by kernel_rfl
  rw [hC] at hcl
  have c3 : Try.prog.cellsOf 3 = 1 := by kernel_rfl
  simp [Value.cells] at hcl hg
  match l, hcl, xs, hlen with
  | [u0, u1, u2, u3, u4, u5, u6], _, [y0, y1, y2, y3, y4, y5, y6], _ =>
    have g0 := hg 0 _ rfl
    have g1 := hg 1 _ rfl
    have g2 := hg 2 _ rfl
    have g3 := hg 3 _ rfl
    have g4 := hg 4 _ rfl
    have g5 := hg 5 _ rfl
    have g6 := hg 6 _ rfl
    simp [c3] at g0 g1 g2 g3 g4 g5 g6
    obtain ⟨a, e0, rfl, -⟩ := DataW.trod_int Try.underlying3 g0
    obtain ⟨b, e1, rfl, -⟩ := DataW.trod_int Try.underlying3 g1
    obtain ⟨c, e2, rfl, -⟩ := DataW.trod_int Try.underlying3 g2
    obtain ⟨d, e3, rfl, -⟩ := DataW.trod_int Try.underlying3 g3
    obtain ⟨e, e4, rfl, -⟩ := DataW.trod_int Try.underlying3 g4
    obtain ⟨f, e5, rfl, -⟩ := DataW.trod_int Try.underlying3 g5
    obtain ⟨g, e6, rfl, -⟩ := DataW.trod_int Try.underlying3 g6
    simp at e0 e1 e2 e3 e4 e5 e6
    exact ⟨a, b, c, d, e, f, g, by rw [e0, e1, e2, e3, e4, e5, e6]⟩

theorem out_bad5 (a b c d e f g : Int) (h : ¬ Ok a b c d e f g) (av : Option Addr) (Ln cc : Nat) (oa ob oc od oe : Int) (w : World) :
    Calls Try.prog 5 #[.agg #[.int .i64 a, .int .i64 b, .int .i64 c, .int .i64 d, .int .i64 e, .int .i64 f, .int .i64 g], .slice av Ln cc, .agg #[.int .i64 oa, .int .i64 ob, .int .i64 oc, .int .i64 od, .int .i64 oe]] w fun r w' => r = .returned (.bool true) ∧ Below w.heap.size w w' := by
  have HQ := hide h
  have B0 := hide (((Below.refl w.heap.size w).alloc (Nat.le_refl _) (.cells #[.int .i64 a, .int .i64 b, .int .i64 c, .int .i64 d, .int .i64 e, .int .i64 f, .int .i64 g] 23)).alloc (by simp) (.cells #[.int .i64 oa, .int .i64 ob, .int .i64 oc, .int .i64 od, .int .i64 oe] 38))
  clear h
  go_enter Try.func5, Try.ntmps5
  go_wp2_with fail
  refine (may_no _ _ _ _ _ _ _ HQ.out _).mono ?_
  rintro r w1 ⟨rfl, hb1⟩
  have B1 := hide (below_step B0.out B0.out.size hb1)
  clear hb1
  go_wp2_with fail
  refine (awake_ok _).mono ?_
  rintro r w2 ⟨rfl, hb2⟩
  have B2 := hide (below_step B1.out B1.out.size hb2)
  clear hb2
  go_wp2
  go_ret
  exact ⟨rfl, B2.out⟩
theorem out_many5 (q : Cfg) (av : Option Addr) (Ln cc : Nat) (hL : Ln ≤ maxLen) (h6 : ¬ Ln ≤ 60) (oa ob oc od oe : Int) (w : World) :
    Calls Try.prog 5 #[q.v, .slice av Ln cc, .agg #[.int .i64 oa, .int .i64 ob, .int .i64 oc, .int .i64 od, .int .i64 oe]] w fun r w' => r = .returned (.bool true) ∧ Below w.heap.size w w' := by
  have HQ := hide q.ok
  have HF := hide (few_v av Ln cc hL false (by simpa using h6))
  have B0 := hide (((Below.refl w.heap.size w).alloc (Nat.le_refl _) (.cells #[.int .i64 q.a, .int .i64 q.b, .int .i64 q.c, .int .i64 q.d, .int .i64 q.e, .int .i64 q.f, .int .i64 q.g] 23)).alloc (by simp) (.cells #[.int .i64 oa, .int .i64 ob, .int .i64 oc, .int .i64 od, .int .i64 oe] 38))
  clear h6
  go_enter Try.func5, Try.ntmps5
  go_wp2_with fail
  refine (may_yes _ _ _ _ _ _ _ HQ.out _).mono ?_
  rintro r w1 ⟨rfl, hb1⟩
  have B1 := hide (below_step B0.out B0.out.size hb1)
  clear hb1
  go_wp2_with fail
  refine (HF.out _).mono ?_
  rintro r w1' ⟨rfl, rfl⟩
  go_wp2_with fail
  refine (awake_ok _).mono ?_
  rintro r w2 ⟨rfl, hb2⟩
  have B2 := hide (below_step B1.out B1.out.size hb2)
  clear hb2
  go_wp2
  go_ret
  exact ⟨rfl, B2.out⟩

theorem apart_law (a b c d e f g : Int) (av : Option Addr) (Ln cc : Nat) (hL : Ln ≤ maxLen) (A B C D E : Nat → Int) (oa ob oc od oe : Int) (w : World) (hl : OpsIn w av Ln A B C D E) :
    Calls Try.prog 5 #[.agg #[.int .i64 a, .int .i64 b, .int .i64 c, .int .i64 d, .int .i64 e, .int .i64 f, .int .i64 g], .slice av Ln cc, .agg #[.int .i64 oa, .int .i64 ob, .int .i64 oc, .int .i64 od, .int .i64 oe]] w fun r w' => r = .returned (.bool true) ∧ Below w.heap.size w w' := by
  by_cases h : Ok a b c d e f g
  · by_cases h6 : Ln ≤ 60
    · exact apart_ok (cfgOf a b c d e f g h) av Ln cc h6 A B C D E oa ob oc od oe w hl
    · exact out_many5 (cfgOf a b c d e f g h) av Ln cc hL h6 oa ob oc od oe w
  · exact out_bad5 a b c d e f g h av Ln cc oa ob oc od oe w
end Go.Proofs.Ytofgpcdhgkeccaa
