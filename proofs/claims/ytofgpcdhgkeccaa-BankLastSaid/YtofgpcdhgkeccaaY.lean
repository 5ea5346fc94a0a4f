/- does, walked: Read, Write. -/
import Derived.Test.YtofgpcdhgkeccaaX
import Derived.WalkKit
import Derived.WalkSpells
import Derived.ProofKit
import Derived.Outline
import Derived.Handy
import Derived.RowKit3
import Derived.BigQuiet
import Derived.Deep.QuietTactic
import Derived.Deep.RegionHeld3
import Derived.Deep.Draws
import Derived.Deep.RegionLaw
import Derived.RegionTactic
import Derived.BigRegion
import Derived.IntWalk
import Derived.LoopTactic
import Derived.OwnWalk
import Derived.Laws.AppendOwn
import Derived.Laws.OwnMore
import Derived.Laws.MakeOwn
import Derived.Laws.Pointers
import Derived.Maps.AppendAt
import Derived.Deep.AppendLies
import Derived.Below
namespace Go.Proofs.Ytofgpcdhgkeccaa
open Go.RowKit
set_option linter.unusedVariables false
set_option maxRecDepth 100000


theorem last2 {p q : Prop} (h : p ∧ q) : q := h.2
theorem last4 {p q r s : Prop} (h : p ∧ q ∧ r ∧ s) : s := h.2.2.2
/-- What does holds on to: its op's box, in block B, and both memories. -/
def DO (n0 : Nat) (w0 : World) (q : Cfg) (M K : Nat) (L : Nat → Nat) (R E : Nat) (W : World) : Prop := DS n0 w0 q M K L R E W
def Done (q : Cfg) (M K : Nat) (L : Nat → Nat) (R E : Nat) (w : World) (r : Ending) (w' : World) : Prop :=
  (∃ b, r = .returned (.bool b)) ∧ DS w.heap.size w q M K L R E w'
theorem done_of {q : Cfg} {M K R E : Nat} {L : Nat → Nat} {w W : World} {o : Obj} (b : Bool) (h : DS w.heap.size (w.alloc o) q M K L R E W) : Done q M K L R E w (.returned (.bool b)) W :=
  ⟨⟨b, rfl⟩, ⟨h.mem, h.ref, (Fr.of_below (S := fun k => Mem.S q M K L k ∨ Rf.S R E k) ((Below.refl w.heap.size w).alloc (Nat.le_refl _) o)).trans h.fr (fun _ _ h => h), h.ap, h.lm, h.lr⟩⟩
theorem err_ex (b : Bool) (w : World) : Calls Try.prog 30 #[.bool b] w fun r w' => (∃ e, r = .returned (.int .i64 e)) ∧ w = w' := (err_any b w).mono fun _ _ ⟨e, h⟩ => ⟨⟨_, e⟩, h⟩
theorem bdec (b : Bool) : b = true ∨ b = false := by cases b <;> simp

set_option maxHeartbeats 4000000 in
theorem does_read {q : Cfg} {M K R E : Nat} {L : Nat → Nat} (b c d e : Int)  (w : World) (h : DS w.heap.size w q M K L R E w) :
    Calls Try.prog 11 #[.pointer (some ⟨M, 0, none⟩), .pointer (some ⟨R, 0, none⟩), .agg #[.int .i64 0, .int .i64 b, .int .i64 c, .int .i64 d, .int .i64 e]] w (Done q M K L R E w) := by
  have H0 := hide (h.next ((Below.refl w.heap.size w).alloc (Nat.le_refl _) (.cells #[.int .i64 0, .int .i64 b, .int .i64 c, .int .i64 d, .int .i64 e] 38)))
  have D0 : Hid (DS w.heap.size (w.alloc (.cells #[.int .i64 0, .int .i64 b, .int .i64 c, .int .i64 d, .int .i64 e] 38)) q M K L R E (w.alloc (.cells #[.int .i64 0, .int .i64 b, .int .i64 c, .int .i64 d, .int .i64 e] 38))) := hide ⟨H0.out.mem, H0.out.ref, Fr.refl _ _, h.ap, h.lm, h.lr⟩
  have B0 : ∀ (W : World), DS w.heap.size (w.alloc (.cells #[.int .i64 0, .int .i64 b, .int .i64 c, .int .i64 d, .int .i64 e] 38)) q M K L R E W → W.cell? ⟨w.heap.size, 0, none⟩ = some (.int .i64 0) ∧ W.cell? ⟨w.heap.size, 1, none⟩ = some (.int .i64 b) ∧ W.cell? ⟨w.heap.size, 2, none⟩ = some (.int .i64 c) ∧ W.cell? ⟨w.heap.size, 3, none⟩ = some (.int .i64 d) ∧ W.cell? ⟨w.heap.size, 4, none⟩ = some (.int .i64 e) ∧ w.heap.size < W.heap.size := fun W hd =>
    ⟨hd.cell (by simp) (Nat.le_refl _) (by simp [go_sem]), hd.cell (by simp) (Nat.le_refl _) (by simp [go_sem]), hd.cell (by simp) (Nat.le_refl _) (by simp [go_sem]), hd.cell (by simp) (Nat.le_refl _) (by simp [go_sem]), hd.cell (by simp) (Nat.le_refl _) (by simp [go_sem]), Nat.lt_of_lt_of_le (by simp) hd.fr.size⟩
  have BB := hide B0
  have h32 := q.n32
  clear H0 B0
  obtain ⟨ρ0, hrf⟩ := h.ref
  have d0 := hrf.d0
  have hRl := hrf.hR
  have hMl := h.lm M (.inl rfl)
  clear h hrf
  by_cases hin : 0 ≤ b ∧ b < (q.n : Int) * 2
  · obtain ⟨hb0, hb1⟩ := hin
    go_enter Try.func11, Try.ntmps11
    go_wp2
    go_quiet (fail)
    go_wp2_with fail
    refine (ds_read b (D0.out.drewN _)).mono ?_
    rintro r w1 ⟨⟨x1, y1, e1, rfl⟩, hd1, -⟩
    obtain ⟨z0, z1, z2, z3, z4, zl⟩ := BB.out _ hd1
    have H1 := hide (hd1.next ((Below.refl _ _).alloc (Nat.le_refl _) (.cells #[.int .i64 x1, .int .i64 y1] 36)))
    have hMl1 := H1.out.lm
    clear hd1
    go_wp2_with fail
    refine (ds_rread b H1.out).mono ?_
    rintro r w2 ⟨⟨x2, y2, b2, rfl⟩, hd2, f2⟩
    have n1 : ¬ w1.heap.size < w.heap.size := by omega
    have k0 := (f2.cell (p := w1.heap.size) (o := 0) (by simp) n1).trans (by simp [go_sem] : _ = some (.int .i64 x1))
    have k1 := (f2.cell (p := w1.heap.size) (o := 1) (by simp) n1).trans (by simp [go_sem] : _ = some (.int .i64 y1))
    have ks : w1.heap.size < w2.heap.size := by have := f2.size; simp at this; omega
    have kne : ¬ w1.heap.size = w2.heap.size := by omega
    obtain ⟨y0', y1', y2', y3', y4', yl'⟩ := BB.out _ hd2
    have H2 := hide (hd2.next ((Below.refl _ _).alloc (Nat.le_refl _) (.cells #[.int .i64 x2, .int .i64 y2] 35)))
    clear hd2 f2
    have q0 := fun W => arr_eql x1 y1 x2 y2 W
    rcases bdec ((x1 == x2) && (y1 == y2)) with hq | hq
    · rw [hq] at q0
      go_wp2_with fail
      refine (err_any _ _).mono ?_
      rintro r w3 ⟨rfl, rfl⟩
      go_wp2
      all_goals
        go_ret
        exact done_of _ H2.out
    · rw [hq] at q0
      go_wp2_with fail
      go_ret
      exact done_of _ H2.out

  · by_cases hb0 : 0 ≤ b
    · have hb1 : ¬ b < (q.n : Int) * 2 := by omega
      have hb2 : decide (b < (q.n : Int) * 2) = false := by simp; omega
      replace hin := hide hin
      go_enter Try.func11, Try.ntmps11
      go_wp2
      go_quiet (fail)
      go_wp2_with fail
      refine (ds_read b (D0.out.drewN _)).mono ?_
      rintro r w1 ⟨⟨x1, y1, e1, rfl⟩, hd1, -⟩
      obtain ⟨z0, z1, z2, z3, z4, zl⟩ := BB.out _ hd1
      have H1 := hide (hd1.next ((Below.refl _ _).alloc (Nat.le_refl _) (.cells #[.int .i64 x1, .int .i64 y1] 36)))
      have hMl1 := H1.out.lm
      clear hd1
      go_wp2_with fail
      refine (ds_rread b H1.out).mono ?_
      rintro r w2 ⟨⟨x2, y2, b2, rfl⟩, hd2, f2⟩
      have n1 : ¬ w1.heap.size < w.heap.size := by omega
      have k0 := (f2.cell (p := w1.heap.size) (o := 0) (by simp) n1).trans (by simp [go_sem] : _ = some (.int .i64 x1))
      have k1 := (f2.cell (p := w1.heap.size) (o := 1) (by simp) n1).trans (by simp [go_sem] : _ = some (.int .i64 y1))
      have ks : w1.heap.size < w2.heap.size := by have := f2.size; simp at this; omega
      have kne : ¬ w1.heap.size = w2.heap.size := by omega
      obtain ⟨y0', y1', y2', y3', y4', yl'⟩ := BB.out _ hd2
      have H2 := hide (hd2.next ((Below.refl _ _).alloc (Nat.le_refl _) (.cells #[.int .i64 x2, .int .i64 y2] 35)))
      clear hd2 f2
      have q0 := fun W => arr_eql x1 y1 x2 y2 W
      rcases bdec ((x1 == x2) && (y1 == y2)) with hq | hq
      · rw [hq] at q0
        go_wp2_with fail
        refine (err_any _ _).mono ?_
        rintro r w3 ⟨rfl, rfl⟩
        go_wp2
        all_goals
          go_ret
          exact done_of _ H2.out
      · rw [hq] at q0
        go_wp2_with fail
        go_ret
        exact done_of _ H2.out

    · have hb2 : decide (0 ≤ b) = false := by simp; omega
      replace hin := hide hin
      go_enter Try.func11, Try.ntmps11
      go_wp2
      go_quiet (fail)
      go_wp2_with fail
      refine (ds_read b (D0.out.drewN _)).mono ?_
      rintro r w1 ⟨⟨x1, y1, e1, rfl⟩, hd1, -⟩
      obtain ⟨z0, z1, z2, z3, z4, zl⟩ := BB.out _ hd1
      have H1 := hide (hd1.next ((Below.refl _ _).alloc (Nat.le_refl _) (.cells #[.int .i64 x1, .int .i64 y1] 36)))
      have hMl1 := H1.out.lm
      clear hd1
      go_wp2_with fail
      refine (ds_rread b H1.out).mono ?_
      rintro r w2 ⟨⟨x2, y2, b2, rfl⟩, hd2, f2⟩
      have n1 : ¬ w1.heap.size < w.heap.size := by omega
      have k0 := (f2.cell (p := w1.heap.size) (o := 0) (by simp) n1).trans (by simp [go_sem] : _ = some (.int .i64 x1))
      have k1 := (f2.cell (p := w1.heap.size) (o := 1) (by simp) n1).trans (by simp [go_sem] : _ = some (.int .i64 y1))
      have ks : w1.heap.size < w2.heap.size := by have := f2.size; simp at this; omega
      have kne : ¬ w1.heap.size = w2.heap.size := by omega
      obtain ⟨y0', y1', y2', y3', y4', yl'⟩ := BB.out _ hd2
      have H2 := hide (hd2.next ((Below.refl _ _).alloc (Nat.le_refl _) (.cells #[.int .i64 x2, .int .i64 y2] 35)))
      clear hd2 f2
      have q0 := fun W => arr_eql x1 y1 x2 y2 W
      rcases bdec ((x1 == x2) && (y1 == y2)) with hq | hq
      · rw [hq] at q0
        go_wp2_with fail
        refine (err_any _ _).mono ?_
        rintro r w3 ⟨rfl, rfl⟩
        go_wp2
        all_goals
          go_ret
          exact done_of _ H2.out
      · rw [hq] at q0
        go_wp2_with fail
        go_ret
        exact done_of _ H2.out


set_option maxHeartbeats 4000000 in
theorem does_write {q : Cfg} {M K R E : Nat} {L : Nat → Nat} (b c d e : Int)  (w : World) (h : DS w.heap.size w q M K L R E w) :
    Calls Try.prog 11 #[.pointer (some ⟨M, 0, none⟩), .pointer (some ⟨R, 0, none⟩), .agg #[.int .i64 1, .int .i64 b, .int .i64 c, .int .i64 d, .int .i64 e]] w (Done q M K L R E w) := by
  have H0 := hide (h.next ((Below.refl w.heap.size w).alloc (Nat.le_refl _) (.cells #[.int .i64 1, .int .i64 b, .int .i64 c, .int .i64 d, .int .i64 e] 38)))
  have D0 : Hid (DS w.heap.size (w.alloc (.cells #[.int .i64 1, .int .i64 b, .int .i64 c, .int .i64 d, .int .i64 e] 38)) q M K L R E (w.alloc (.cells #[.int .i64 1, .int .i64 b, .int .i64 c, .int .i64 d, .int .i64 e] 38))) := hide ⟨H0.out.mem, H0.out.ref, Fr.refl _ _, h.ap, h.lm, h.lr⟩
  have B0 : ∀ (W : World), DS w.heap.size (w.alloc (.cells #[.int .i64 1, .int .i64 b, .int .i64 c, .int .i64 d, .int .i64 e] 38)) q M K L R E W → W.cell? ⟨w.heap.size, 0, none⟩ = some (.int .i64 1) ∧ W.cell? ⟨w.heap.size, 1, none⟩ = some (.int .i64 b) ∧ W.cell? ⟨w.heap.size, 2, none⟩ = some (.int .i64 c) ∧ W.cell? ⟨w.heap.size, 3, none⟩ = some (.int .i64 d) ∧ W.cell? ⟨w.heap.size, 4, none⟩ = some (.int .i64 e) ∧ w.heap.size < W.heap.size := fun W hd =>
    ⟨hd.cell (by simp) (Nat.le_refl _) (by simp [go_sem]), hd.cell (by simp) (Nat.le_refl _) (by simp [go_sem]), hd.cell (by simp) (Nat.le_refl _) (by simp [go_sem]), hd.cell (by simp) (Nat.le_refl _) (by simp [go_sem]), hd.cell (by simp) (Nat.le_refl _) (by simp [go_sem]), Nat.lt_of_lt_of_le (by simp) hd.fr.size⟩
  have BB := hide B0
  have h32 := q.n32
  clear H0 B0
  obtain ⟨ρ0, hrf⟩ := h.ref
  have d0 := hrf.d0
  have hRl := hrf.hR
  have hMl := h.lm M (.inl rfl)
  clear h hrf
  by_cases hin : 0 ≤ b ∧ b < (q.n : Int) * 2
  · obtain ⟨hb0, hb1⟩ := hin
    have SS := hide (show ∀ W, DS w.heap.size (w.alloc (.cells #[.int .i64 1, .int .i64 b, .int .i64 c, .int .i64 d, .int .i64 e] 38)) q M K L R E W → W.cell? ⟨w.heap.size, 1, none⟩ = some (.int .i64 b) ∧ W.cell? ⟨w.heap.size, 3, none⟩ = some (.int .i64 d) ∧ W.cell? ⟨w.heap.size, 4, none⟩ = some (.int .i64 e) ∧ DS w.heap.size (w.alloc (.cells #[.int .i64 1, .int .i64 b, .int .i64 c, .int .i64 d, .int .i64 e] 38)) q M K L R E W from fun W hd => ⟨(BB.out W hd).2.1, (BB.out W hd).2.2.2.1, (BB.out W hd).2.2.2.2.1, hd⟩)
    go_enter Try.func11, Try.ntmps11
    go_wp2
    go_quiet (fail)
    go_wp2_with fail
    go_region_held3 (fun W => W.cell? ⟨w.heap.size, 1, none⟩ = some (.int .i64 b) ∧ W.cell? ⟨w.heap.size, 3, none⟩ = some (.int .i64 d) ∧ W.cell? ⟨w.heap.size, 4, none⟩ = some (.int .i64 e) ∧ DS w.heap.size (w.alloc (.cells #[.int .i64 1, .int .i64 b, .int .i64 c, .int .i64 d, .int .i64 e] 38)) q M K L R E W)
      (first | assumption | exact SS.out _ hd | exact SS.out _ (D0.out.drewN _) | exact SS.out _ ((D0.out.drewN _).next (below_drew0 (Below.refl _ _))))
      (first
        | (go_at_call 24; refine (ds_write _ _ _ (last4 (by assumption))).mono ?_; rintro r w' ⟨⟨e1, rfl⟩, hd, -⟩)
        | (go_at_call 31; refine (ds_rwrite _ _ _ (last4 (by assumption))).mono ?_; rintro r w' ⟨⟨b1, rfl⟩, hd, -⟩)
        | (go_at_call 30; refine (err_ex _ _).mono ?_; rintro r w' ⟨⟨e2, rfl⟩, rfl⟩))
    all_goals
      go_wp2
      go_ret
      exact done_of _ (last4 (by assumption))

  · by_cases hb0 : 0 ≤ b
    · have hb1 : ¬ b < (q.n : Int) * 2 := by omega
      have hb2 : decide (b < (q.n : Int) * 2) = false := by simp; omega
      replace hin := hide hin
      have SS := hide (show ∀ W, DS w.heap.size (w.alloc (.cells #[.int .i64 1, .int .i64 b, .int .i64 c, .int .i64 d, .int .i64 e] 38)) q M K L R E W → W.cell? ⟨w.heap.size, 1, none⟩ = some (.int .i64 b) ∧ W.cell? ⟨w.heap.size, 3, none⟩ = some (.int .i64 d) ∧ W.cell? ⟨w.heap.size, 4, none⟩ = some (.int .i64 e) ∧ DS w.heap.size (w.alloc (.cells #[.int .i64 1, .int .i64 b, .int .i64 c, .int .i64 d, .int .i64 e] 38)) q M K L R E W from fun W hd => ⟨(BB.out W hd).2.1, (BB.out W hd).2.2.2.1, (BB.out W hd).2.2.2.2.1, hd⟩)
      go_enter Try.func11, Try.ntmps11
      go_wp2
      go_quiet (fail)
      go_wp2_with fail
      go_region_held3 (fun W => W.cell? ⟨w.heap.size, 1, none⟩ = some (.int .i64 b) ∧ W.cell? ⟨w.heap.size, 3, none⟩ = some (.int .i64 d) ∧ W.cell? ⟨w.heap.size, 4, none⟩ = some (.int .i64 e) ∧ DS w.heap.size (w.alloc (.cells #[.int .i64 1, .int .i64 b, .int .i64 c, .int .i64 d, .int .i64 e] 38)) q M K L R E W)
        (first | assumption | exact SS.out _ hd | exact SS.out _ (D0.out.drewN _) | exact SS.out _ ((D0.out.drewN _).next (below_drew0 (Below.refl _ _))))
        (first
          | (go_at_call 24; refine (ds_write _ _ _ (last4 (by assumption))).mono ?_; rintro r w' ⟨⟨e1, rfl⟩, hd, -⟩)
          | (go_at_call 31; refine (ds_rwrite _ _ _ (last4 (by assumption))).mono ?_; rintro r w' ⟨⟨b1, rfl⟩, hd, -⟩)
          | (go_at_call 30; refine (err_ex _ _).mono ?_; rintro r w' ⟨⟨e2, rfl⟩, rfl⟩))
      all_goals
        go_wp2
        go_ret
        exact done_of _ (last4 (by assumption))

    · have hb2 : decide (0 ≤ b) = false := by simp; omega
      replace hin := hide hin
      have SS := hide (show ∀ W, DS w.heap.size (w.alloc (.cells #[.int .i64 1, .int .i64 b, .int .i64 c, .int .i64 d, .int .i64 e] 38)) q M K L R E W → W.cell? ⟨w.heap.size, 1, none⟩ = some (.int .i64 b) ∧ W.cell? ⟨w.heap.size, 3, none⟩ = some (.int .i64 d) ∧ W.cell? ⟨w.heap.size, 4, none⟩ = some (.int .i64 e) ∧ DS w.heap.size (w.alloc (.cells #[.int .i64 1, .int .i64 b, .int .i64 c, .int .i64 d, .int .i64 e] 38)) q M K L R E W from fun W hd => ⟨(BB.out W hd).2.1, (BB.out W hd).2.2.2.1, (BB.out W hd).2.2.2.2.1, hd⟩)
      go_enter Try.func11, Try.ntmps11
      go_wp2
      go_quiet (fail)
      go_wp2_with fail
      go_region_held3 (fun W => W.cell? ⟨w.heap.size, 1, none⟩ = some (.int .i64 b) ∧ W.cell? ⟨w.heap.size, 3, none⟩ = some (.int .i64 d) ∧ W.cell? ⟨w.heap.size, 4, none⟩ = some (.int .i64 e) ∧ DS w.heap.size (w.alloc (.cells #[.int .i64 1, .int .i64 b, .int .i64 c, .int .i64 d, .int .i64 e] 38)) q M K L R E W)
        (first | assumption | exact SS.out _ hd | exact SS.out _ (D0.out.drewN _) | exact SS.out _ ((D0.out.drewN _).next (below_drew0 (Below.refl _ _))))
        (first
          | (go_at_call 24; refine (ds_write _ _ _ (last4 (by assumption))).mono ?_; rintro r w' ⟨⟨e1, rfl⟩, hd, -⟩)
          | (go_at_call 31; refine (ds_rwrite _ _ _ (last4 (by assumption))).mono ?_; rintro r w' ⟨⟨b1, rfl⟩, hd, -⟩)
          | (go_at_call 30; refine (err_ex _ _).mono ?_; rintro r w' ⟨⟨e2, rfl⟩, rfl⟩))
      all_goals
        go_wp2
        go_ret
        exact done_of _ (last4 (by assumption))

end Go.Proofs.Ytofgpcdhgkeccaa
