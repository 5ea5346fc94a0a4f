/- New. -/
import Derived.Test.YtfiangiajhdhcaaDoorF
import Derived.WalkKit
import Derived.WalkSpells
import Derived.ProofKit
import Derived.Outline
import Derived.Handy
import Derived.RowKit3
import Derived.BigQuiet
import Derived.Deep.QuietTactic
import Derived.Deep.RegionHeld3
import Derived.Deep.Draws
import Derived.Deep.RegionLaw
import Derived.RegionTactic
import Derived.BigRegion
import Derived.IntWalk
import Derived.LoopTactic
import Derived.OwnWalk
import Derived.Laws.AppendOwn
import Derived.Laws.OwnMore
import Derived.Laws.MakeOwn
import Derived.Laws.Pointers
import Derived.Maps.AppendAt
import Derived.Deep.AppendLies
import Derived.Below
import Derived.RangeFuncNested
import Derived.RangeFuncBound
import Derived.RangeFuncCalls
import Derived.RangeFuncLeaves
import Derived.Shelf.Abstract
import Derived.LoopNIn
import Derived.LoopIn
import Derived.OwnWalkIn
import Derived.TacticsInMore
import Derived.Shelf.RegionOpen
import Derived.Laws.ResultCell
namespace Go.Proofs.YtfiangiajhdhcaaDoor
open Go.Shelf Go.RowKit
set_option linter.unusedVariables false
set_option maxRecDepth 100000

section
variable {w w' : World} {av : Option Addr} {L c : Nat} {A B C D : Nat → Int}
theorem new_range (no wd : Int) (h : ¬ (0 ≤ no ∧ no < 4 ∧ 0 ≤ wd ∧ wd ≤ 3)) (w : World) : Calls Tryd.prog 37 #[.int .i64 no, .int .i64 wd, .slice av L c] w fun r w' => r = .returned (.tuple #[.pointer none, .int .i64 10]) ∧ Below w.heap.size w w' := by
  by_cases h1 : 0 ≤ no <;> by_cases h2 : no < 4 <;> by_cases h3 : 0 ≤ wd <;> by_cases h4 : wd ≤ 3
  · exact absurd ⟨h1, h2, h3, h4⟩ h
  all_goals
    clear h
    go_enter Tryd.func37, Tryd.ntmps37
    go_wp2
    refine bodyPost_ret (v := .tuple #[.pointer none, .int .i64 10]) (by simp [results, Tryd.results37, go_sem]) rfl ?_
    exact ⟨rfl, Below.refl _ _⟩
theorem new_bad (no wd : Int) (h : 0 ≤ no ∧ no < 4 ∧ 0 ≤ wd ∧ wd ≤ 3) (w : World) (T : Tab w) (hl : OpsIn w av L A B C D) (hb : (chkE L A B C D).2 ≠ 0) : Calls Tryd.prog 37 #[.int .i64 no, .int .i64 wd, .slice av L c] w fun r w' => r = .returned (.tuple #[.pointer none, .int .i64 (chkE L A B C D).2]) ∧ Below w.heap.size w w' := by
  obtain ⟨h1, h2, h3, h4⟩ := h
  have HC := hide (Check_any av L c A B C D w T hl)
  obtain ⟨ch, hch⟩ : ∃ ch, chkE L A B C D = ch := ⟨_, rfl⟩
  rw [hch] at HC hb ⊢
  obtain ⟨c1, c2⟩ := ch
  simp only at HC hb ⊢
  clear hch T hl
  go_enter Tryd.func37, Tryd.ntmps37
  go_wp2_with fail
  refine HC.out.mono ?_
  rintro r w1 ⟨rfl, hbl⟩
  have B1 := hide hbl
  clear hbl
  go_wp2
  refine bodyPost_ret (v := .tuple #[.pointer none, .int .i64 c2]) (by simp [results, Tryd.results37, go_sem]) rfl ?_
  exact ⟨rfl, B1.out⟩
theorem new_ok (no wd : Int) (h : 0 ≤ no ∧ no < 4 ∧ 0 ≤ wd ∧ wd ≤ 3) (hL : L ≤ maxLen) (w : World) (T : Tab w) (hl : OpsIn w av L A B C D) (hb : (chkE L A B C D).2 = 0) : Calls Tryd.prog 37 #[.int .i64 no, .int .i64 wd, .slice av L c] w fun r w' => ∃ P av' c', r = .returned (.tuple #[.pointer (some ⟨P, 0, none⟩), .int .i64 0]) ∧ Co w' P 0 0 0 0 0 wd (!isN 0 L A) no av' L c' A B C D ∧ w.heap.size ≤ P ∧ (∀ a, av' = some a → w.heap.size ≤ a.block) ∧ Below w.heap.size w w' := by
  have h32 : L ≤ 32 := by
    by_cases e : 32 < L
    · rw [chkE, if_pos e] at hb; cases hb
    · omega
  obtain ⟨h1, h2, h3, h4⟩ := h
  have HC := hide (Check_any av L c A B C D w T hl)
  obtain ⟨ch, hch⟩ : ∃ ch, chkE L A B C D = ch := ⟨_, rfl⟩
  rw [hch] at HC hb
  obtain ⟨c1, c2⟩ := ch
  simp only at HC hb
  subst hb
  have HL := hide hl
  clear hch T hl
  go_enter Tryd.func37, Tryd.ntmps37
  go_wp2_with fail
  refine HC.out.mono ?_
  rintro r w1 ⟨rfl, hbl⟩
  have B1 := hide hbl
  clear hbl
  go_wp2_with fail
  refine (clone_i av L c A B C D hL h32 w1 (HL.out.next B1.out)).mono ?_
  rintro r w2 ⟨av', c', rfl, hops, hav, hb2⟩
  have B2 := hide (below_step B1.out B1.out.size hb2)
  have HO := hide hops
  have HA := hide hav
  clear hops hav hb2
  go_wp2_with fail
  have hw2 : w.heap.size ≤ w2.heap.size := B2.out.size
  refine (settle_f (r0 := 0) (r1 := 0) (r2 := 0) (r3 := 0) (at_ := 0) (wd := wd) (ov := false) (no := no) (av := av') (L := L) (c := c') (A := A) (B := B) (C := C) (D := D) _ ?_).mono ?_
  · exact ⟨by simp, World.cell?_alloc_new w2 _ 79 0, World.cell?_alloc_new w2 _ 79 1, World.cell?_alloc_new w2 _ 79 2, World.cell?_alloc_new w2 _ 79 3, World.cell?_alloc_new w2 _ 79 4, World.cell?_alloc_new w2 _ 79 5, World.cell?_alloc_new w2 _ 79 6, World.cell?_alloc_new w2 _ 79 7, World.cell?_alloc_new w2 _ 79 8, fun i => World.frozen?_alloc_new w2 _ 79 i, HO.out.next ((Below.refl _ _).alloc (Nat.le_refl _) _), fun a e => (by have := (HA.out a e).2; omega), h32⟩
  · rintro r w3 ⟨rfl, k3, f3⟩
    have B3 := hide ((B2.out.alloc hw2 _).trans (f3.below (B := w.heap.size) (by simp; omega) (fun i hi e => by omega)))
    have K3 := hide k3
    clear k3 f3
    go_wp2
    refine bodyPost_ret (v := .tuple #[.pointer (some ⟨w2.heap.size, 0, none⟩), .int .i64 0]) (by simp [results, Tryd.results37, go_sem]) rfl ?_
    exact ⟨_, av', c', rfl, K3.out, hw2, fun a e => Nat.le_trans B1.out.size (HA.out a e).1, B3.out⟩
end
end Go.Proofs.YtfiangiajhdhcaaDoor
