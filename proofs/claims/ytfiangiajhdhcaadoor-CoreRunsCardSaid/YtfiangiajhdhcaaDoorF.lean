/- A core; Next, settle. -/
import Derived.Test.YtfiangiajhdhcaaDoorE
import Derived.WalkKit
import Derived.WalkSpells
import Derived.ProofKit
import Derived.Outline
import Derived.Handy
import Derived.RowKit3
import Derived.BigQuiet
import Derived.Deep.QuietTactic
import Derived.Deep.RegionHeld3
import Derived.Deep.Draws
import Derived.Deep.RegionLaw
import Derived.RegionTactic
import Derived.BigRegion
import Derived.IntWalk
import Derived.LoopTactic
import Derived.OwnWalk
import Derived.Laws.AppendOwn
import Derived.Laws.OwnMore
import Derived.Laws.MakeOwn
import Derived.Laws.Pointers
import Derived.Maps.AppendAt
import Derived.Deep.AppendLies
import Derived.Below
import Derived.RangeFuncNested
import Derived.RangeFuncBound
import Derived.RangeFuncCalls
import Derived.RangeFuncLeaves
import Derived.Shelf.Abstract
import Derived.LoopNIn
import Derived.LoopIn
import Derived.OwnWalkIn
import Derived.TacticsInMore
import Derived.Shelf.RegionOpen
import Derived.Laws.ResultCell
namespace Go.Proofs.YtfiangiajhdhcaaDoor
open Go.Shelf Go.RowKit
set_option linter.unusedVariables false
set_option maxRecDepth 100000

/-- A core as it lies: its registers, its place, its world, whether it is over, its number, its program. -/
structure Co (w : World) (P : Nat) (r0 r1 r2 r3 at_ wd : Int) (ov : Bool) (no : Int) (av : Option Addr) (L c : Nat) (A B C D : Nat → Int) : Prop where
  hP : P < w.heap.size
  c0 : w.cell? ⟨P, 0, none⟩ = some (.int .i64 r0)
  c1 : w.cell? ⟨P, 1, none⟩ = some (.int .i64 r1)
  c2 : w.cell? ⟨P, 2, none⟩ = some (.int .i64 r2)
  c3 : w.cell? ⟨P, 3, none⟩ = some (.int .i64 r3)
  c4 : w.cell? ⟨P, 4, none⟩ = some (.int .i64 at_)
  c5 : w.cell? ⟨P, 5, none⟩ = some (.int .i64 wd)
  c6 : w.cell? ⟨P, 6, none⟩ = some (.bool ov)
  c7 : w.cell? ⟨P, 7, none⟩ = some (.int .i64 no)
  c8 : w.cell? ⟨P, 8, none⟩ = some (.slice av L c)
  fz : ∀ i, w.frozen? ⟨P, i, none⟩ = false
  ops : OpsIn w av L A B C D
  sep : ∀ a, av = some a → a.block ≠ P
  le : L ≤ 32
section
variable {w w' : World} {P : Nat} {r0 r1 r2 r3 at_ wd : Int} {ov : Bool} {no : Int} {av : Option Addr} {L c : Nat} {A B C D : Nat → Int}
theorem Co.fr {S : Nat → Prop} (h : Co w P r0 r1 r2 r3 at_ wd ov no av L c A B C D) (f : Fr S w w') (h1 : ¬ S P) (h2 : ∀ a, av = some a → ¬ S a.block) : Co w' P r0 r1 r2 r3 at_ wd ov no av L c A B C D :=
  ⟨Nat.lt_of_lt_of_le h.hP f.size, (f.cell h.hP h1).trans h.c0, (f.cell h.hP h1).trans h.c1, (f.cell h.hP h1).trans h.c2, (f.cell h.hP h1).trans h.c3, (f.cell h.hP h1).trans h.c4, (f.cell h.hP h1).trans h.c5, (f.cell h.hP h1).trans h.c6, (f.cell h.hP h1).trans h.c7, (f.cell h.hP h1).trans h.c8, fun i => (f.frozen h.hP h1).trans (h.fz i), h.ops.fr f h2, h.sep, h.le⟩
theorem Co.next (h : Co w P r0 r1 r2 r3 at_ wd ov no av L c A B C D) (hb : Below w.heap.size w w') : Co w' P r0 r1 r2 r3 at_ wd ov no av L c A B C D :=
  h.fr (Fr.of_below (S := fun _ => False) hb) (fun e => e) (fun _ _ e => e)
theorem Co.setOver (h : Co w P r0 r1 r2 r3 at_ wd ov no av L c A B C D) (b : Bool) : Co (w.setCell ⟨P, 6, none⟩ (.bool b)) P r0 r1 r2 r3 at_ wd b no av L c A B C D := by
  have o : ∀ (i : Nat) (u : Value), i ≠ 6 → w.cell? ⟨P, i, none⟩ = some u → (w.setCell ⟨P, 6, none⟩ (.bool b)).cell? ⟨P, i, none⟩ = some u := fun i u hi hu => (setCell_cell_other (by simp)).trans hu
  refine ⟨by simp [World.setCell, h.hP], o 0 _ (by omega) h.c0, o 1 _ (by omega) h.c1, o 2 _ (by omega) h.c2, o 3 _ (by omega) h.c3, o 4 _ (by omega) h.c4, o 5 _ (by omega) h.c5, World.cell?_setCell_same' _ _ _ (by rw [h.c6]; rfl), o 7 _ (by omega) h.c7, o 8 _ (by omega) h.c8, fun i => ?_, h.ops.fr ((Fr.refl (fun k => k = P) w).setCell (p := ⟨P, 6, none⟩) (fun _ => rfl) _) (fun a e => h.sep a e), h.sep, h.le⟩
  rw [World.frozen?_setCell]
  exact h.fz i
/-- Is there a next instruction? -/
def isN (at_ : Int) (L : Nat) (A : Nat → Int) : Bool := decide (0 ≤ at_ ∧ at_ < L ∧ A at_.toNat ≠ 11)
/-- The next instruction; none is all zeros. -/
def insV (at_ : Int) (L : Nat) (A B C D : Nat → Int) : Value := if isN at_ L A = true then .agg #[.int .i64 (A at_.toNat), .int .i64 (B at_.toNat), .int .i64 (C at_.toNat), .int .i64 (D at_.toNat)] else .agg #[.int .i64 0, .int .i64 0, .int .i64 0, .int .i64 0]
theorem below_res (w : World) (o : Obj) (n : Nat) (u0 u1 u2 u3 : Value) : Below w.heap.size w ((((((w.alloc o).drewN n).setCell ⟨w.heap.size, 0, none⟩ u0).setCell ⟨w.heap.size, 1, none⟩ u1).setCell ⟨w.heap.size, 2, none⟩ u2).setCell ⟨w.heap.size, 3, none⟩ u3) :=
  ((((below_drewN ((Below.refl _ _).alloc (Nat.le_refl _) _) n).setCell (p := ⟨w.heap.size, 0, none⟩) (Nat.le_refl _) _).setCell (p := ⟨w.heap.size, 1, none⟩) (Nat.le_refl _) _).setCell (p := ⟨w.heap.size, 2, none⟩) (Nat.le_refl _) _).setCell (p := ⟨w.heap.size, 3, none⟩) (Nat.le_refl _) _
set_option maxHeartbeats 4000000 in
theorem next_f (w : World) (h : Co w P r0 r1 r2 r3 at_ wd ov no av L c A B C D) : Calls Tryd.prog 41 #[.pointer (some ⟨P, 0, none⟩)] w fun r w' => r = .returned (.tuple #[insV at_ L A B C D, .bool (isN at_ L A)]) ∧ Below w.heap.size w w' := by
  have hn := h.next ((Below.refl w.heap.size w).alloc (Nat.le_refl _) (.cells #[.int .i64 0, .int .i64 0, .int .i64 0, .int .i64 0] 23))
  have z4 := hn.c4
  have z8 := hn.c8
  by_cases h0 : 0 ≤ at_
  · obtain ⟨k, rfl⟩ : ∃ k : Nat, at_ = k := ⟨at_.toNat, by omega⟩
    by_cases h1 : k < L
    · have h1' : (k : Int) < L := by omega
      rcases hn.ops with e | ⟨b, off, rfl, hb, hop⟩
      · omega
      · obtain ⟨o0, o1, o2, o3⟩ := hop k h1
        clear hop
        by_cases h2 : A k = 11
        · have e1 : isN k L A = false := by simp [isN, h2]
          have e2 : insV k L A B C D = .agg #[.int .i64 0, .int .i64 0, .int .i64 0, .int .i64 0] := by simp [insV, e1]
          rw [e1, e2]
          rw [h2] at o0
          clear e1 e2 h h2 hn
          go_enter Tryd.func41, Tryd.ntmps41
          go_wp2_with (go_quiet (fail))
          refine bodyPost_ret (v := .tuple #[.agg #[.int .i64 0, .int .i64 0, .int .i64 0, .int .i64 0], .bool false]) (by rw [results_cell_tmp rfl]; simp [go_sem]) rfl ?_
          exact ⟨rfl, below_res _ _ _ _ _ _ _⟩
        · have e1 : isN k L A = true := by simp [isN, h2, h1]
          have e2 : insV k L A B C D = .agg #[.int .i64 (A k), .int .i64 (B k), .int .i64 (C k), .int .i64 (D k)] := by simp [insV, e1]
          rw [e1, e2]
          clear e1 e2 h hn
          go_enter Tryd.func41, Tryd.ntmps41
          have hg : (decide ((k : Int) < 0) || decide (L ≤ k) || A k == 11) = false := by
            have q1 : decide ((k : Int) < 0) = false := by simp
            have q2 : decide (L ≤ k) = false := by simp [h1]
            have q3 : (A k == 11) = false := by simp [h2]
            rw [q1, q2, q3]; rfl
          go_wp2_with (go_quiet (fail))
          go_region
          go_wp2
          refine bodyPost_ret (v := .tuple #[.agg #[.int .i64 (A k), .int .i64 (B k), .int .i64 (C k), .int .i64 (D k)], .bool true]) (by rw [results_cell_tmp rfl]; simp [go_sem]) rfl ?_
          exact ⟨rfl, below_res _ _ _ _ _ _ _⟩
    · have h1' : ¬ (k : Int) < L := by omega
      have e1 : isN k L A = false := by simp [isN, h1]
      have e2 : insV k L A B C D = .agg #[.int .i64 0, .int .i64 0, .int .i64 0, .int .i64 0] := by simp [insV, e1]
      rw [e1, e2]
      clear e1 e2 h hn
      go_enter Tryd.func41, Tryd.ntmps41
      go_wp2_with (go_quiet (fail))
      refine bodyPost_ret (v := .tuple #[.agg #[.int .i64 0, .int .i64 0, .int .i64 0, .int .i64 0], .bool false]) (by rw [results_cell_tmp rfl]; simp [go_sem]) rfl ?_
      exact ⟨rfl, below_res _ _ _ _ _ _ _⟩
  · have h0' : at_ < 0 := by omega
    have e1 : isN at_ L A = false := by simp [isN, h0]
    have e2 : insV at_ L A B C D = .agg #[.int .i64 0, .int .i64 0, .int .i64 0, .int .i64 0] := by simp [insV, e1]
    rw [e1, e2]
    clear e1 e2 h hn
    go_enter Tryd.func41, Tryd.ntmps41
    go_wp2_with (go_quiet (fail))
    refine bodyPost_ret (v := .tuple #[.agg #[.int .i64 0, .int .i64 0, .int .i64 0, .int .i64 0], .bool false]) (by rw [results_cell_tmp rfl]; simp [go_sem]) rfl ?_
    exact ⟨rfl, below_res _ _ _ _ _ _ _⟩
theorem next_nil (w : World) : Calls Tryd.prog 41 #[.pointer none] w fun r w' => r = .returned (.tuple #[.agg #[.int .i64 0, .int .i64 0, .int .i64 0, .int .i64 0], .bool false]) ∧ Below w.heap.size w w' := by
  go_enter Tryd.func41, Tryd.ntmps41
  go_wp2_with (go_quiet (fail))
  refine bodyPost_ret (v := .tuple #[.agg #[.int .i64 0, .int .i64 0, .int .i64 0, .int .i64 0], .bool false]) (by rw [results_cell_tmp rfl]; simp [go_sem]) rfl ?_
  exact ⟨rfl, below_res _ _ _ _ _ _ _⟩
theorem settle_f (w : World) (h : Co w P r0 r1 r2 r3 at_ wd ov no av L c A B C D) : Calls Tryd.prog 79 #[.pointer (some ⟨P, 0, none⟩)] w fun r w' => r = .returned (.tuple #[]) ∧ Co w' P r0 r1 r2 r3 at_ wd (!isN at_ L A) no av L c A B C D ∧ Fr (fun k => k = P) w w' := by
  have H := hide h
  clear h
  go_enter Tryd.func79, Tryd.ntmps79
  go_wp2_with fail
  refine (next_f _ H.out).mono ?_
  rintro r w1 ⟨rfl, hb⟩
  have z6 := (H.out.next hb).c6
  have f6 := (H.out.next hb).fz 6
  have H1 := hide (H.out.next hb)
  have F1 := hide (Fr.of_below (S := fun k => k = P) hb)
  clear hb
  obtain ⟨xa, xb, xc, xd, hiv⟩ : ∃ xa xb xc xd, insV at_ L A B C D = .agg #[.int .i64 xa, .int .i64 xb, .int .i64 xc, .int .i64 xd] := by
    unfold insV
    split
    · exact ⟨_, _, _, _, rfl⟩
    · exact ⟨_, _, _, _, rfl⟩
  rw [hiv]
  clear hiv
  have H2 := hide (H1.out.next ((Below.refl w1.heap.size w1).alloc (Nat.le_refl _) (.cells #[.int .i64 xa, .int .i64 xb, .int .i64 xc, .int .i64 xd] 23)))
  have y6 := H2.out.c6
  have y6f := H2.out.fz 6
  generalize hb : isN at_ L A = b
  have H3 := hide (H2.out.setOver (!b))
  have HBn := hide hb
  clear hb z6 f6
  go_wp2
  go_end0
  exact ⟨rfl, by rw [HBn.out]; exact H3.out, (F1.out.alloc _).setCell (p := ⟨P, 6, none⟩) (fun _ => rfl) _⟩
end
end Go.Proofs.YtfiangiajhdhcaaDoor
