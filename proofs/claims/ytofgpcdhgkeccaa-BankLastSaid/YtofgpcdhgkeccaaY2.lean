/- does, walked: the others. -/
import Derived.Test.YtofgpcdhgkeccaaY
import Derived.WalkKit
import Derived.WalkSpells
import Derived.ProofKit
import Derived.Outline
import Derived.Handy
import Derived.RowKit3
import Derived.BigQuiet
import Derived.Deep.QuietTactic
import Derived.Deep.RegionHeld3
import Derived.Deep.Draws
import Derived.Deep.RegionLaw
import Derived.RegionTactic
import Derived.BigRegion
import Derived.IntWalk
import Derived.LoopTactic
import Derived.OwnWalk
import Derived.Laws.AppendOwn
import Derived.Laws.OwnMore
import Derived.Laws.MakeOwn
import Derived.Laws.Pointers
import Derived.Maps.AppendAt
import Derived.Deep.AppendLies
import Derived.Below
namespace Go.Proofs.Ytofgpcdhgkeccaa
open Go.RowKit
set_option linter.unusedVariables false
set_option maxRecDepth 100000


set_option maxHeartbeats 4000000 in
theorem does_get {q : Cfg} {M K R E : Nat} {L : Nat → Nat} (b c d e : Int)  (w : World) (h : DS w.heap.size w q M K L R E w) :
    Calls Try.prog 11 #[.pointer (some ⟨M, 0, none⟩), .pointer (some ⟨R, 0, none⟩), .agg #[.int .i64 2, .int .i64 b, .int .i64 c, .int .i64 d, .int .i64 e]] w (Done q M K L R E w) := by
  have H0 := hide (h.next ((Below.refl w.heap.size w).alloc (Nat.le_refl _) (.cells #[.int .i64 2, .int .i64 b, .int .i64 c, .int .i64 d, .int .i64 e] 38)))
  have D0 : Hid (DS w.heap.size (w.alloc (.cells #[.int .i64 2, .int .i64 b, .int .i64 c, .int .i64 d, .int .i64 e] 38)) q M K L R E (w.alloc (.cells #[.int .i64 2, .int .i64 b, .int .i64 c, .int .i64 d, .int .i64 e] 38))) := hide ⟨H0.out.mem, H0.out.ref, Fr.refl _ _, h.ap, h.lm, h.lr⟩
  have B0 : ∀ (W : World), DS w.heap.size (w.alloc (.cells #[.int .i64 2, .int .i64 b, .int .i64 c, .int .i64 d, .int .i64 e] 38)) q M K L R E W → W.cell? ⟨w.heap.size, 0, none⟩ = some (.int .i64 2) ∧ W.cell? ⟨w.heap.size, 1, none⟩ = some (.int .i64 b) ∧ W.cell? ⟨w.heap.size, 2, none⟩ = some (.int .i64 c) ∧ W.cell? ⟨w.heap.size, 3, none⟩ = some (.int .i64 d) ∧ W.cell? ⟨w.heap.size, 4, none⟩ = some (.int .i64 e) ∧ w.heap.size < W.heap.size := fun W hd =>
    ⟨hd.cell (by simp) (Nat.le_refl _) (by simp [go_sem]), hd.cell (by simp) (Nat.le_refl _) (by simp [go_sem]), hd.cell (by simp) (Nat.le_refl _) (by simp [go_sem]), hd.cell (by simp) (Nat.le_refl _) (by simp [go_sem]), hd.cell (by simp) (Nat.le_refl _) (by simp [go_sem]), Nat.lt_of_lt_of_le (by simp) hd.fr.size⟩
  have BB := hide B0
  have h32 := q.n32
  clear H0 B0
  obtain ⟨ρ0, hrf⟩ := h.ref
  have d0 := hrf.d0
  have hRl := hrf.hR
  have hMl := h.lm M (.inl rfl)
  clear h hrf
  by_cases hin : 0 ≤ b ∧ b < (q.n : Int) * 2
  · obtain ⟨hb0, hb1⟩ := hin
    obtain ⟨i, rfl, hi⟩ := int_nat (z := b) (n := q.n * 2) (by omega)
    have HI := hide hi
    obtain ⟨φ, hm⟩ := D0.out.mem
    have HM := hide hm
    clear hm
    go_enter Try.func11, Try.ntmps11
    go_wp2
    go_quiet (fail)
    go_wp2_with fail
    refine (get_in i HI.out _ (mem_drewN HM.out _)).mono ?_
    rintro r w1 ⟨rfl, hb⟩
    have hd := (D0.out.drewN _).next hb
    have HD := hide hd
    obtain ⟨z0, z1, z2, z3, z4, zl⟩ := BB.out _ hd
    obtain ⟨ρ, hr⟩ := hd.ref
    have d0' := hr.d0
    have d2' := (hr.ws i HI.out).1
    clear hd hr hb d0
    rcases bdec (φ i == ρ i) with hq | hq
    · go_wp2_with (go_quiet (fail))
      go_ret
      exact done_of _ (HD.out.drewN _)
    · go_wp2_with (go_quiet (fail))
      go_ret
      exact done_of _ (HD.out.drewN _)

  · by_cases hb0 : 0 ≤ b
    · have hb1 : ¬ b < (q.n : Int) * 2 := by omega
      have hb2 : decide (b < (q.n : Int) * 2) = false := by simp; omega
      replace hin := hide hin
      obtain ⟨φ, hm⟩ := D0.out.mem
      have HM := hide hm
      clear hm
      have HO := hide (show ¬ (0 ≤ b ∧ b < (q.n : Int) * 2) by omega)
      go_enter Try.func11, Try.ntmps11
      go_wp2
      go_quiet (fail)
      go_wp2_with fail
      refine (get_out b HO.out _ (mem_drewN HM.out _)).mono ?_
      rintro r w1 ⟨rfl, hb⟩
      have HD := hide ((D0.out.drewN _).next hb)
      go_wp2
      go_ret
      exact done_of _ HD.out

    · have hb2 : decide (0 ≤ b) = false := by simp; omega
      replace hin := hide hin
      obtain ⟨φ, hm⟩ := D0.out.mem
      have HM := hide hm
      clear hm
      have HO := hide (show ¬ (0 ≤ b ∧ b < (q.n : Int) * 2) by omega)
      go_enter Try.func11, Try.ntmps11
      go_wp2
      go_quiet (fail)
      go_wp2_with fail
      refine (get_out b HO.out _ (mem_drewN HM.out _)).mono ?_
      rintro r w1 ⟨rfl, hb⟩
      have HD := hide ((D0.out.drewN _).next hb)
      go_wp2
      go_ret
      exact done_of _ HD.out


set_option maxHeartbeats 4000000 in
theorem does_set {q : Cfg} {M K R E : Nat} {L : Nat → Nat} (b c d e : Int)  (w : World) (h : DS w.heap.size w q M K L R E w) :
    Calls Try.prog 11 #[.pointer (some ⟨M, 0, none⟩), .pointer (some ⟨R, 0, none⟩), .agg #[.int .i64 3, .int .i64 b, .int .i64 c, .int .i64 d, .int .i64 e]] w (Done q M K L R E w) := by
  have H0 := hide (h.next ((Below.refl w.heap.size w).alloc (Nat.le_refl _) (.cells #[.int .i64 3, .int .i64 b, .int .i64 c, .int .i64 d, .int .i64 e] 38)))
  have D0 : Hid (DS w.heap.size (w.alloc (.cells #[.int .i64 3, .int .i64 b, .int .i64 c, .int .i64 d, .int .i64 e] 38)) q M K L R E (w.alloc (.cells #[.int .i64 3, .int .i64 b, .int .i64 c, .int .i64 d, .int .i64 e] 38))) := hide ⟨H0.out.mem, H0.out.ref, Fr.refl _ _, h.ap, h.lm, h.lr⟩
  have B0 : ∀ (W : World), DS w.heap.size (w.alloc (.cells #[.int .i64 3, .int .i64 b, .int .i64 c, .int .i64 d, .int .i64 e] 38)) q M K L R E W → W.cell? ⟨w.heap.size, 0, none⟩ = some (.int .i64 3) ∧ W.cell? ⟨w.heap.size, 1, none⟩ = some (.int .i64 b) ∧ W.cell? ⟨w.heap.size, 2, none⟩ = some (.int .i64 c) ∧ W.cell? ⟨w.heap.size, 3, none⟩ = some (.int .i64 d) ∧ W.cell? ⟨w.heap.size, 4, none⟩ = some (.int .i64 e) ∧ w.heap.size < W.heap.size := fun W hd =>
    ⟨hd.cell (by simp) (Nat.le_refl _) (by simp [go_sem]), hd.cell (by simp) (Nat.le_refl _) (by simp [go_sem]), hd.cell (by simp) (Nat.le_refl _) (by simp [go_sem]), hd.cell (by simp) (Nat.le_refl _) (by simp [go_sem]), hd.cell (by simp) (Nat.le_refl _) (by simp [go_sem]), Nat.lt_of_lt_of_le (by simp) hd.fr.size⟩
  have BB := hide B0
  have h32 := q.n32
  clear H0 B0
  obtain ⟨ρ0, hrf⟩ := h.ref
  have d0 := hrf.d0
  have hRl := hrf.hR
  have hMl := h.lm M (.inl rfl)
  clear h hrf
  by_cases hin : 0 ≤ b ∧ b < (q.n : Int) * 2
  · obtain ⟨hb0, hb1⟩ := hin
    obtain ⟨i, rfl, hi⟩ := int_nat (z := b) (n := q.n * 2) (by omega)
    have HI := hide hi
    go_enter Try.func11, Try.ntmps11
    go_wp2
    go_quiet (fail)
    have D1 := hide (D0.out.drewN nq)
    have B1 := hide (BB.out _ D1.out)
    generalize (w.alloc (.cells #[.int .i64 3, .int .i64 ↑i, .int .i64 c, .int .i64 d, .int .i64 e] 38)).drewN nq = wx at D1 B1 ⊢
    obtain ⟨z0, z1, z2, z3, z4, zl⟩ := B1.out
    obtain ⟨ρ, hr⟩ := D1.out.ref
    have d0' := hr.d0
    obtain ⟨d2', d3'⟩ := hr.ws i HI.out
    have HR := hide hr
    have hne : w.heap.size ≠ E := by have := D1.out.lr E (.inr rfl); omega
    clear hr d0
    go_wp2
    go_region
    have D2 := hide (D1.out.toRef (HR.out.set HI.out c) ((Fr.refl (Rf.S R E) wx).setCell (p := ⟨E, i, none⟩) (fun _ => .inr rfl) _))
    go_wp2_with fail
    refine (ds_set _ _ (D2.out.next (below_drew0 (Below.refl _ _)))).mono ?_
    rintro r w1 ⟨⟨e1, rfl⟩, hd, -⟩
    have HD := hide hd
    clear hd
    go_wp2_with fail
    refine (err_ex _ _).mono ?_
    rintro r w2 ⟨⟨e2, rfl⟩, rfl⟩
    go_wp2
    go_ret
    exact done_of _ HD.out

  · by_cases hb0 : 0 ≤ b
    · have hb1 : ¬ b < (q.n : Int) * 2 := by omega
      have hb2 : decide (b < (q.n : Int) * 2) = false := by simp; omega
      replace hin := hide hin
      go_enter Try.func11, Try.ntmps11
      go_wp2
      go_quiet (fail)
      go_wp2_with fail
      refine (ds_set _ _ (D0.out.drewN _)).mono ?_
      rintro r w1 ⟨⟨e1, rfl⟩, hd, -⟩
      have HD := hide hd
      clear hd
      go_wp2_with fail
      refine (err_ex _ _).mono ?_
      rintro r w2 ⟨⟨e2, rfl⟩, rfl⟩
      go_wp2
      go_ret
      exact done_of _ HD.out

    · have hb2 : decide (0 ≤ b) = false := by simp; omega
      replace hin := hide hin
      go_enter Try.func11, Try.ntmps11
      go_wp2
      go_quiet (fail)
      go_wp2_with fail
      refine (ds_set _ _ (D0.out.drewN _)).mono ?_
      rintro r w1 ⟨⟨e1, rfl⟩, hd, -⟩
      have HD := hide hd
      clear hd
      go_wp2_with fail
      refine (err_ex _ _).mono ?_
      rintro r w2 ⟨⟨e2, rfl⟩, rfl⟩
      go_wp2
      go_ret
      exact done_of _ HD.out

end Go.Proofs.Ytofgpcdhgkeccaa
