import Derived.Test.YtfiangiajhdhcaaDoorG
import Derived.WalkKit
import Derived.WalkSpells
import Derived.ProofKit
import Derived.Outline
import Derived.Handy
import Derived.RowKit3
import Derived.BigQuiet
import Derived.Deep.QuietTactic
import Derived.Deep.RegionHeld3
import Derived.Deep.Draws
import Derived.Deep.RegionLaw
import Derived.RegionTactic
import Derived.BigRegion
import Derived.IntWalk
import Derived.LoopTactic
import Derived.OwnWalk
import Derived.Laws.AppendOwn
import Derived.Laws.OwnMore
import Derived.Laws.MakeOwn
import Derived.Laws.Pointers
import Derived.Maps.AppendAt
import Derived.Deep.AppendLies
import Derived.Below
import Derived.RangeFuncNested
import Derived.RangeFuncBound
import Derived.RangeFuncCalls
import Derived.RangeFuncLeaves
import Derived.Shelf.Abstract
import Derived.LoopNIn
import Derived.LoopIn
import Derived.OwnWalkIn
import Derived.TacticsInMore
import Derived.Shelf.RegionOpen
import Derived.Laws.ResultCell
import Derived.Laws.ResultCell
namespace Go.Proofs.YtfiangiajhdhcaaDoor
open Go.Shelf Go.RowKit
set_option linter.unusedVariables false
set_option maxRecDepth 100000

theorem chk_lit {a : Int} : ¬ a = 0 → (a == 0) = false := by intro h; simpa using h
def AwOk (w : World) : Prop := ∀ w', Below w.heap.size w w' → Calls Tryd.prog 36 #[] w' fun e w'' => e = .returned (.bool true) ∧ Below w'.heap.size w' w''
theorem news_long (no wd : Int) (av : Option Addr) (L c : Nat) (hL : L ≤ maxLen) (h : 60 < L) (w : World) (ha : Hid (AwOk w)) : Calls Tryd.prog 12 #[.int .i64 no, .int .i64 wd, .slice av L c] w fun e w' => e = .returned (.bool true) ∧ Below w.heap.size w w' := by
  have h0 : (60 : Int) < (L : Int) := by omega
  go_enter Tryd.func12, Tryd.ntmps12
  go_wp2_with (go_at_call 36; refine (ha.out _ (.refl _ _)).mono ?_)
  rintro e w' ⟨rfl, hb⟩
  go_wp2
  go_ret
  exact ⟨rfl, hb⟩
theorem news_range (no wd : Int) (av : Option Addr) (L c : Nat) (A B C D : Nat → Int) (hL : L ≤ maxLen) (h : ¬ 60 < L) (hr : ¬ (0 ≤ no ∧ no < 4 ∧ 0 ≤ wd ∧ wd ≤ 3)) (w : World) (T : Tab w) (hl : OpsIn w av L A B C D) (ha : Hid (AwOk w)) : Calls Tryd.prog 12 #[.int .i64 no, .int .i64 wd, .slice av L c] w fun e w' => e = .returned (.bool true) ∧ Below w.heap.size w w' := by
  have h0 : ¬ (60 : Int) < (L : Int) := by omega
  have hN := hide (new_range (av := av) (L := L) (c := c) no wd hr w)
  have hr := hide hr
  go_enter Tryd.func12, Tryd.ntmps12
  go_wp2_with (go_at_call 37; refine hN.out.mono ?_)
  first | rintro e w1 rfl hb1 | rintro e w1 ⟨rfl, hb1⟩
  have hC := hide (Check_any av L c A B C D w1 (T.next hb1) (hl.next hb1))
  generalize chkE L A B C D = q at hC
  apply_assumption
  go_wp2_with (go_at_call 43; refine hC.out.mono ?_)
  first | rintro e w2 rfl hb2 | rintro e w2 ⟨rfl, hb2⟩
  apply_assumption
  have hb3 : Below w.heap.size w w2 := hb1.trans (hb2.mono hb1.size)
  have e10 : ((10 : Int) == 0) = false := by decide
  by_cases n1 : no < 0
  · go_wp2_with (go_at_call 36; refine (ha.out _ hb3).mono ?_)
    first | rintro e w4 rfl hb4 | rintro e w4 ⟨rfl, hb4⟩
    apply_assumption
    go_wp2
    go_ret
    exact ⟨rfl, hb3.trans (hb4.mono hb3.size)⟩
  · by_cases n2 : 3 < no
    · go_wp2_with (go_at_call 36; refine (ha.out _ hb3).mono ?_)
      first | rintro e w4 rfl hb4 | rintro e w4 ⟨rfl, hb4⟩
      apply_assumption
      go_wp2
      go_ret
      exact ⟨rfl, hb3.trans (hb4.mono hb3.size)⟩
    · by_cases n3 : wd < 0
      · go_wp2_with (go_at_call 36; refine (ha.out _ hb3).mono ?_)
        first | rintro e w4 rfl hb4 | rintro e w4 ⟨rfl, hb4⟩
        apply_assumption
        go_wp2
        go_ret
        exact ⟨rfl, hb3.trans (hb4.mono hb3.size)⟩
      · have n4 : 3 < wd := by have := hr.out; omega
        go_wp2_with (go_at_call 36; refine (ha.out _ hb3).mono ?_)
        first | rintro e w4 rfl hb4 | rintro e w4 ⟨rfl, hb4⟩
        apply_assumption
        go_wp2
        go_ret
        exact ⟨rfl, hb3.trans (hb4.mono hb3.size)⟩
theorem news_bad (no wd : Int) (av : Option Addr) (L c : Nat) (A B C D : Nat → Int) (hL : L ≤ maxLen) (h : ¬ 60 < L) (hr : 0 ≤ no ∧ no < 4 ∧ 0 ≤ wd ∧ wd ≤ 3) (w : World) (T : Tab w) (hl : OpsIn w av L A B C D) (hq : (chkE L A B C D).2 ≠ 0) (ha : Hid (AwOk w)) : Calls Tryd.prog 12 #[.int .i64 no, .int .i64 wd, .slice av L c] w fun e w' => e = .returned (.bool true) ∧ Below w.heap.size w w' := by
  have h0 : ¬ (60 : Int) < (L : Int) := by omega
  have hN := hide (new_bad (av := av) (L := L) (c := c) (A := A) (B := B) (C := C) (D := D) no wd hr w T hl hq)
  have hC0 := hide (fun w1 hb1 => Check_any av L c A B C D w1 (T.next hb1) (hl.next hb1))
  generalize chkE L A B C D = q at hC0 hN hq
  obtain ⟨q1, q2⟩ := q
  obtain ⟨n1, n2, n3, n4⟩ := hr
  have m1 : ¬ no < 0 := by omega
  have m2 : ¬ 3 < no := by omega
  have m3 : ¬ wd < 0 := by omega
  have m4 : ¬ 3 < wd := by omega
  have hq : ¬ q2 = 0 := hq
  go_enter Tryd.func12, Tryd.ntmps12
  go_wp2_with (go_at_call 37; refine hN.out.mono ?_)
  first | rintro e w1 rfl hb1 | rintro e w1 ⟨rfl, hb1⟩
  have hC := hide (hC0.out w1 hb1)
  apply_assumption
  go_wp2_with (go_at_call 43; refine hC.out.mono ?_)
  first | rintro e w2 rfl hb2 | rintro e w2 ⟨rfl, hb2⟩
  apply_assumption
  have hb3 : Below w.heap.size w w2 := hb1.trans (hb2.mono hb1.size)
  go_wp2_with (go_at_call 36; refine (ha.out _ hb3).mono ?_)
  first | rintro e w4 rfl hb4 | rintro e w4 ⟨rfl, hb4⟩
  apply_assumption
  go_wp2
  go_ret
  exact ⟨rfl, hb3.trans (hb4.mono hb3.size)⟩
end Go.Proofs.YtfiangiajhdhcaaDoor
