/- does, walked. -/
import Derived.Test.YtofgpcdhgkeccaaY2
import Derived.WalkKit
import Derived.WalkSpells
import Derived.ProofKit
import Derived.Outline
import Derived.Handy
import Derived.RowKit3
import Derived.BigQuiet
import Derived.Deep.QuietTactic
import Derived.Deep.RegionHeld3
import Derived.Deep.Draws
import Derived.Deep.RegionLaw
import Derived.RegionTactic
import Derived.BigRegion
import Derived.IntWalk
import Derived.LoopTactic
import Derived.OwnWalk
import Derived.Laws.AppendOwn
import Derived.Laws.OwnMore
import Derived.Laws.MakeOwn
import Derived.Laws.Pointers
import Derived.Maps.AppendAt
import Derived.Deep.AppendLies
import Derived.Below
namespace Go.Proofs.Ytofgpcdhgkeccaa
open Go.RowKit
set_option linter.unusedVariables false
set_option maxRecDepth 100000


set_option maxHeartbeats 4000000 in
theorem does_scrub {q : Cfg} {M K R E : Nat} {L : Nat → Nat} (a b c d e : Int) (h0 : (a == 0) = false) (h1 : (a == 1) = false) (h2 : (a == 2) = false) (h3 : (a == 3) = false) (w : World) (h : DS w.heap.size w q M K L R E w) :
    Calls Try.prog 11 #[.pointer (some ⟨M, 0, none⟩), .pointer (some ⟨R, 0, none⟩), .agg #[.int .i64 a, .int .i64 b, .int .i64 c, .int .i64 d, .int .i64 e]] w (Done q M K L R E w) := by
  have H0 := hide (h.next ((Below.refl w.heap.size w).alloc (Nat.le_refl _) (.cells #[.int .i64 a, .int .i64 b, .int .i64 c, .int .i64 d, .int .i64 e] 38)))
  have D0 : Hid (DS w.heap.size (w.alloc (.cells #[.int .i64 a, .int .i64 b, .int .i64 c, .int .i64 d, .int .i64 e] 38)) q M K L R E (w.alloc (.cells #[.int .i64 a, .int .i64 b, .int .i64 c, .int .i64 d, .int .i64 e] 38))) := hide ⟨H0.out.mem, H0.out.ref, Fr.refl _ _, h.ap, h.lm, h.lr⟩
  have B0 : ∀ (W : World), DS w.heap.size (w.alloc (.cells #[.int .i64 a, .int .i64 b, .int .i64 c, .int .i64 d, .int .i64 e] 38)) q M K L R E W → W.cell? ⟨w.heap.size, 0, none⟩ = some (.int .i64 a) ∧ W.cell? ⟨w.heap.size, 1, none⟩ = some (.int .i64 b) ∧ W.cell? ⟨w.heap.size, 2, none⟩ = some (.int .i64 c) ∧ W.cell? ⟨w.heap.size, 3, none⟩ = some (.int .i64 d) ∧ W.cell? ⟨w.heap.size, 4, none⟩ = some (.int .i64 e) ∧ w.heap.size < W.heap.size := fun W hd =>
    ⟨hd.cell (by simp) (Nat.le_refl _) (by simp [go_sem]), hd.cell (by simp) (Nat.le_refl _) (by simp [go_sem]), hd.cell (by simp) (Nat.le_refl _) (by simp [go_sem]), hd.cell (by simp) (Nat.le_refl _) (by simp [go_sem]), hd.cell (by simp) (Nat.le_refl _) (by simp [go_sem]), Nat.lt_of_lt_of_le (by simp) hd.fr.size⟩
  have BB := hide B0
  have h32 := q.n32
  clear H0 B0
  obtain ⟨ρ0, hrf⟩ := h.ref
  have d0 := hrf.d0
  have hRl := hrf.hR
  have hMl := h.lm M (.inl rfl)
  clear h hrf
  by_cases hin : 0 ≤ b ∧ b < (q.n : Int) * 2
  · obtain ⟨hb0, hb1⟩ := hin
    have SS := hide (show ∀ W, DS w.heap.size (w.alloc (.cells #[.int .i64 a, .int .i64 b, .int .i64 c, .int .i64 d, .int .i64 e] 38)) q M K L R E W → W.cell? ⟨w.heap.size, 1, none⟩ = some (.int .i64 b) ∧ DS w.heap.size (w.alloc (.cells #[.int .i64 a, .int .i64 b, .int .i64 c, .int .i64 d, .int .i64 e] 38)) q M K L R E W from fun W hd => ⟨(BB.out W hd).2.1, hd⟩)
    go_enter Try.func11, Try.ntmps11
    go_wp2
    go_quiet (fail)
    go_wp2_with fail
    go_region_held3 (fun W => W.cell? ⟨w.heap.size, 1, none⟩ = some (.int .i64 b) ∧ DS w.heap.size (w.alloc (.cells #[.int .i64 a, .int .i64 b, .int .i64 c, .int .i64 d, .int .i64 e] 38)) q M K L R E W)
      (first | assumption | exact SS.out _ hd | exact SS.out _ (D0.out.drewN _) | exact SS.out _ ((D0.out.drewN _).next (below_drew0 (Below.refl _ _))))
      (first
        | (go_at_call 23; refine (ds_scrub _ (last2 (by assumption))).mono ?_; rintro r w' ⟨⟨e1, rfl⟩, hd, -⟩)
        | (go_at_call 32; refine (ds_rscrub _ (last2 (by assumption))).mono ?_; rintro r w' ⟨⟨b1, rfl⟩, hd, -⟩)
        | (go_at_call 30; refine (err_ex _ _).mono ?_; rintro r w' ⟨⟨e2, rfl⟩, rfl⟩))
    all_goals
      go_wp2
      go_ret
      exact done_of _ (last2 (by assumption))

  · by_cases hb0 : 0 ≤ b
    · have hb1 : ¬ b < (q.n : Int) * 2 := by omega
      have hb2 : decide (b < (q.n : Int) * 2) = false := by simp; omega
      replace hin := hide hin
      have SS := hide (show ∀ W, DS w.heap.size (w.alloc (.cells #[.int .i64 a, .int .i64 b, .int .i64 c, .int .i64 d, .int .i64 e] 38)) q M K L R E W → W.cell? ⟨w.heap.size, 1, none⟩ = some (.int .i64 b) ∧ DS w.heap.size (w.alloc (.cells #[.int .i64 a, .int .i64 b, .int .i64 c, .int .i64 d, .int .i64 e] 38)) q M K L R E W from fun W hd => ⟨(BB.out W hd).2.1, hd⟩)
      go_enter Try.func11, Try.ntmps11
      go_wp2
      go_quiet (fail)
      go_wp2_with fail
      go_region_held3 (fun W => W.cell? ⟨w.heap.size, 1, none⟩ = some (.int .i64 b) ∧ DS w.heap.size (w.alloc (.cells #[.int .i64 a, .int .i64 b, .int .i64 c, .int .i64 d, .int .i64 e] 38)) q M K L R E W)
        (first | assumption | exact SS.out _ hd | exact SS.out _ (D0.out.drewN _) | exact SS.out _ ((D0.out.drewN _).next (below_drew0 (Below.refl _ _))))
        (first
          | (go_at_call 23; refine (ds_scrub _ (last2 (by assumption))).mono ?_; rintro r w' ⟨⟨e1, rfl⟩, hd, -⟩)
          | (go_at_call 32; refine (ds_rscrub _ (last2 (by assumption))).mono ?_; rintro r w' ⟨⟨b1, rfl⟩, hd, -⟩)
          | (go_at_call 30; refine (err_ex _ _).mono ?_; rintro r w' ⟨⟨e2, rfl⟩, rfl⟩))
      all_goals
        go_wp2
        go_ret
        exact done_of _ (last2 (by assumption))

    · have hb2 : decide (0 ≤ b) = false := by simp; omega
      replace hin := hide hin
      have SS := hide (show ∀ W, DS w.heap.size (w.alloc (.cells #[.int .i64 a, .int .i64 b, .int .i64 c, .int .i64 d, .int .i64 e] 38)) q M K L R E W → W.cell? ⟨w.heap.size, 1, none⟩ = some (.int .i64 b) ∧ DS w.heap.size (w.alloc (.cells #[.int .i64 a, .int .i64 b, .int .i64 c, .int .i64 d, .int .i64 e] 38)) q M K L R E W from fun W hd => ⟨(BB.out W hd).2.1, hd⟩)
      go_enter Try.func11, Try.ntmps11
      go_wp2
      go_quiet (fail)
      go_wp2_with fail
      go_region_held3 (fun W => W.cell? ⟨w.heap.size, 1, none⟩ = some (.int .i64 b) ∧ DS w.heap.size (w.alloc (.cells #[.int .i64 a, .int .i64 b, .int .i64 c, .int .i64 d, .int .i64 e] 38)) q M K L R E W)
        (first | assumption | exact SS.out _ hd | exact SS.out _ (D0.out.drewN _) | exact SS.out _ ((D0.out.drewN _).next (below_drew0 (Below.refl _ _))))
        (first
          | (go_at_call 23; refine (ds_scrub _ (last2 (by assumption))).mono ?_; rintro r w' ⟨⟨e1, rfl⟩, hd, -⟩)
          | (go_at_call 32; refine (ds_rscrub _ (last2 (by assumption))).mono ?_; rintro r w' ⟨⟨b1, rfl⟩, hd, -⟩)
          | (go_at_call 30; refine (err_ex _ _).mono ?_; rintro r w' ⟨⟨e2, rfl⟩, rfl⟩))
      all_goals
        go_wp2
        go_ret
        exact done_of _ (last2 (by assumption))


theorem does_any {q : Cfg} {M K R E : Nat} {L : Nat → Nat} (a b c d e : Int) (w : World) (h : DS w.heap.size w q M K L R E w) :
    Calls Try.prog 11 #[.pointer (some ⟨M, 0, none⟩), .pointer (some ⟨R, 0, none⟩), .agg #[.int .i64 a, .int .i64 b, .int .i64 c, .int .i64 d, .int .i64 e]] w (Done q M K L R E w) := by
  by_cases h0 : a = 0
  · subst h0; exact does_read b c d e w h
  by_cases h1 : a = 1
  · subst h1; exact does_write b c d e w h
  by_cases h2 : a = 2
  · subst h2; exact does_get b c d e w h
  by_cases h3 : a = 3
  · subst h3; exact does_set b c d e w h
  exact does_scrub a b c d e (by simpa using h0) (by simpa using h1) (by simpa using h2) (by simpa using h3) w h
end Go.Proofs.Ytofgpcdhgkeccaa
