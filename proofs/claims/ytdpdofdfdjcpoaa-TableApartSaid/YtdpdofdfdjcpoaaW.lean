/- TableApart, whole. -/
import Derived.Test.YtdpdofdfdjcpoaaV
import Derived.WalkKit
import Derived.WalkSpells
import Derived.ProofKit
import Derived.Outline
import Derived.Handy
import Derived.RowKit3
import Derived.BigQuiet
import Derived.Deep.QuietTactic
import Derived.Deep.RegionHeld3
import Derived.Deep.Draws
import Derived.RegionTactic
import Derived.BigRegion
import Derived.IntWalk
import Derived.LoopTactic
import Derived.OwnWalk
import Derived.Laws.AppendOwn
import Derived.Laws.OwnMore
import Derived.Laws.MakeOwn
import Derived.Laws.Pointers
import Derived.Maps.AppendAt
import Derived.Below
namespace Go.Proofs.Ytdpdofdfdjcpoaa
open Go.RowKit
set_option linter.unusedVariables false
set_option maxRecDepth 100000

theorem apart_out_of (gr : Int) (av : Option Addr) (L c : Nat) (hL : L ≤ maxLen) (h : ¬ (1 ≤ gr ∧ gr ≤ 16 ∧ L ≤ 40)) (y x : Int) (b : Bool) (w : World) :
    Calls Try.prog 8 #[.int .i64 gr, .slice av L c, .agg #[.int .i64 y, .int .i64 x, .bool b]] w fun r w' => r = .returned (.bool true) ∧ Below w.heap.size w w' := by
  unfold maxLen at hL
  by_cases h1 : gr < 1
  · clear h
    go_enter Try.func8, Try.ntmps8
    go_wp2_with fail
    refine (awake_ok _).mono ?_
    rintro r w1 ⟨rfl, hb⟩
    go_wp2
    go_ret
    exact ⟨rfl, below_alloc hb⟩
  · by_cases h2 : 16 < gr
    · clear h
      go_enter Try.func8, Try.ntmps8
      go_wp2_with fail
      refine (awake_ok _).mono ?_
      rintro r w1 ⟨rfl, hb⟩
      go_wp2
      go_ret
      exact ⟨rfl, below_alloc hb⟩
    · have h3 : 40 < (L : Int) := by omega
      clear h
      go_enter Try.func8, Try.ntmps8
      go_wp2_with fail
      refine (awake_ok _).mono ?_
      rintro r w1 ⟨rfl, hb⟩
      go_wp2
      go_ret
      exact ⟨rfl, below_alloc hb⟩

theorem apart_law (gr : Int) (av : Option Addr) (L c : Nat) (hL : L ≤ maxLen) (G X : Nat → Int) (B : Nat → Bool) (y x : Int) (b : Bool) (w : World) (hl : OpsIn w av L G X B) : Calls Try.prog 8 #[.int .i64 gr, .slice av L c, .agg #[.int .i64 y, .int .i64 x, .bool b]] w fun r w' => r = .returned (.bool true) ∧ Below w.heap.size w w' := by
  by_cases h : 1 ≤ gr ∧ gr ≤ 16 ∧ L ≤ 40
  · obtain ⟨n, rfl⟩ : ∃ n : Nat, gr = n := ⟨gr.toNat, by omega⟩
    by_cases hy : 0 ≤ y ∧ y < n
    · by_cases hx : 0 ≤ x ∧ x ≤ 4
      · exact apart_yes n (by omega) (by omega) av L c h.2.2 G X B y x b y.toNat (by omega) (by omega) hx w hl
      · exact apart_bad n (by omega) (by omega) av L c h.2.2 G X B y x b y.toNat (by omega) (by omega) hx w hl
    · exact apart_out n (by omega) (by omega) av L c h.2.2 G X B y x b hy w hl
  · exact apart_out_of gr av L c hL h y x b w
end Go.Proofs.Ytdpdofdfdjcpoaa
