/- The reference of layer 9 (checker): Step of an own place. -/
import Derived.Test.YtfikiophfphmbaaV4
import Derived.WalkKit
import Derived.WalkSpells
import Derived.ProofKit
import Derived.Outline
import Derived.Handy
import Derived.RowKit3
import Derived.BigQuiet
import Derived.Deep.QuietTactic
import Derived.Deep.RegionHeld3
import Derived.Deep.Draws
import Derived.Deep.RegionLaw
import Derived.RegionTactic
import Derived.BigRegion
import Derived.IntWalk
import Derived.LoopTactic
import Derived.OwnWalk
import Derived.Laws.AppendOwn
import Derived.Laws.OwnMore
import Derived.Laws.MakeOwn
import Derived.Laws.Pointers
import Derived.Maps.AppendAt
import Derived.Deep.AppendLies
import Derived.Below
namespace Go.Proofs.Ytfikiophfphmbaa
open Go.RowKit
set_option linter.unusedVariables false
set_option maxRecDepth 100000

theorem rstep_own (n g m : Nat) (at_ word : Int) (hn : n ≤ 16) (hm : (n + 3) / 4 = m) (hg : g < 16) (ha : at_ ≠ (g : Int) / 4) : (∃ k nx o lk, StepC k nx lk ∧ ∀ w, Calls Try.prog 50 #[.int .i64 n, .int .i64 g, .int .i64 at_, .int .i64 word] w (StepR k nx o lk w)) := by
  have hg0 : (0 : Int) ≤ g := by omega
  have hg1 : (g : Int) < 16 := by omega
  have hm4 : m ≤ 4 := by omega
  have hqt : (at_ == (g : Int) / 4) = false := beq_eq_false_iff_ne.2 ha
  by_cases ho : ∃ o : Nat, o ≤ 4 ∧ word = o
  · obtain ⟨o, ho, rfl⟩ := ho
    refine ⟨2, 0, o, false, .inr (.inr ⟨rfl, rfl⟩), fun w => ?_⟩
    have HM := hide hm
    clear hm ha
    go_enter Try.func50, Try.ntmps50
    go_wp2_with fail
    refine (rgroups n m hn HM.out _).mono ?_
    rintro r w1 ⟨rfl, hb⟩
    have e0 : w1.cell? ⟨w.heap.size, 0, none⟩ = some (.int .i64 0) := (hb.cell (p := ⟨w.heap.size, 0, none⟩) (by simp)).trans (World.cell?_alloc_new w _ 92 0)
    have e1 : w1.cell? ⟨w.heap.size, 1, none⟩ = some (.bool false) := (hb.cell (p := ⟨w.heap.size, 1, none⟩) (by simp)).trans (World.cell?_alloc_new w _ 92 1)
    have e2 : w1.frozen? ⟨w.heap.size, 0, none⟩ = false := (hb.frozen (p := ⟨w.heap.size, 0, none⟩) (by simp)).trans (World.frozen?_alloc_new w _ 92 0)
    have e3 : w1.frozen? ⟨w.heap.size, 1, none⟩ = false := (hb.frozen (p := ⟨w.heap.size, 1, none⟩) (by simp)).trans (World.frozen?_alloc_new w _ 92 1)
    have B1 := hide (below_alloc hb)
    clear hb
    go_wp2
    go_loop [13] (fun v => ∃ k : Nat, k ≤ o ∧ v = .int .i64 k) (fun v => 5 - (intOf v).toNat)
    case atStart => exact ⟨0, Nat.zero_le _, rfl⟩
    case round =>
      obtain ⟨k, hk, rfl⟩ := hrel
      by_cases hko : k = o
      · subst hko
        go_wp2
        refine bodyPost_ret (v := .tuple #[.int .i64 2, .int .i64 0, .agg #[.int .i64 k, .bool false]]) (by simp [results, Try.results50, go_sem, e0, e1]) rfl ⟨rfl, ?_⟩
        exact (B1.out.setCell (p := ⟨w.heap.size, 0, none⟩) (Nat.le_refl _) _).setCell (p := ⟨w.heap.size, 1, none⟩) (Nat.le_refl _) _
      · have hne : ((o : Int) == (k : Int)) = false := by rw [beq_eq_false_iff_ne]; omega
        have hnn : (o == k) = false := by rw [beq_eq_false_iff_ne]; omega
        have hne8 : ((o : Int) == (k : Int) + 8) = false := by rw [beq_eq_false_iff_ne]; omega
        go_wp2
        go_round
        case rel => exact ⟨k + 1, by omega, by go_num⟩
        case measure => simp [intOf]; omega
  · by_cases hp : ∃ o : Nat, o ≤ 4 ∧ word = o + 8
    · obtain ⟨o, ho', rfl⟩ := hp
      refine ⟨2, 0, o, true, .inr (.inr ⟨rfl, rfl⟩), fun w => ?_⟩
      have HM := hide hm
      have HO := hide ho
      clear hm ha ho
      go_enter Try.func50, Try.ntmps50
      go_wp2_with fail
      refine (rgroups n m hn HM.out _).mono ?_
      rintro r w1 ⟨rfl, hb⟩
      have e0 : w1.cell? ⟨w.heap.size, 0, none⟩ = some (.int .i64 0) := (hb.cell (p := ⟨w.heap.size, 0, none⟩) (by simp)).trans (World.cell?_alloc_new w _ 92 0)
      have e1 : w1.cell? ⟨w.heap.size, 1, none⟩ = some (.bool false) := (hb.cell (p := ⟨w.heap.size, 1, none⟩) (by simp)).trans (World.cell?_alloc_new w _ 92 1)
      have e2 : w1.frozen? ⟨w.heap.size, 0, none⟩ = false := (hb.frozen (p := ⟨w.heap.size, 0, none⟩) (by simp)).trans (World.frozen?_alloc_new w _ 92 0)
      have e3 : w1.frozen? ⟨w.heap.size, 1, none⟩ = false := (hb.frozen (p := ⟨w.heap.size, 1, none⟩) (by simp)).trans (World.frozen?_alloc_new w _ 92 1)
      have B1 := hide (below_alloc hb)
      clear hb
      go_wp2
      go_loop [13] (fun v => ∃ k : Nat, k ≤ o ∧ v = .int .i64 k) (fun v => 5 - (intOf v).toNat)
      case atStart => exact ⟨0, Nat.zero_le _, rfl⟩
      case round =>
        obtain ⟨k, hk, rfl⟩ := hrel
        have hne : ((o : Int) + 8 == (k : Int)) = false := by rw [beq_eq_false_iff_ne]; omega
        by_cases hko : k = o
        · subst hko
          go_wp2
          refine bodyPost_ret (v := .tuple #[.int .i64 2, .int .i64 0, .agg #[.int .i64 k, .bool true]]) (by simp [results, Try.results50, go_sem, e0, e1]) rfl ⟨rfl, ?_⟩
          exact (B1.out.setCell (p := ⟨w.heap.size, 0, none⟩) (Nat.le_refl _) _).setCell (p := ⟨w.heap.size, 1, none⟩) (Nat.le_refl _) _
        · have hne8 : ((o : Int) + 8 == (k : Int) + 8) = false := by rw [beq_eq_false_iff_ne]; omega
          have hnn : (o == k) = false := by rw [beq_eq_false_iff_ne]; omega
          have hnz : ((o : Int) == (k : Int)) = false := by rw [beq_eq_false_iff_ne]; omega
          go_wp2
          go_round
          case rel => exact ⟨k + 1, by omega, by go_num⟩
          case measure => simp [intOf]; omega
    · refine ⟨0, 0, 0, false, .inl ⟨rfl, rfl⟩, fun w => ?_⟩
      have HM := hide hm
      have HO := hide ho
      have HP := hide hp
      clear hm ha ho hp
      go_enter Try.func50, Try.ntmps50
      go_wp2_with fail
      refine (rgroups n m hn HM.out _).mono ?_
      rintro r w1 ⟨rfl, hb⟩
      have e0 : w1.cell? ⟨w.heap.size, 0, none⟩ = some (.int .i64 0) := (hb.cell (p := ⟨w.heap.size, 0, none⟩) (by simp)).trans (World.cell?_alloc_new w _ 92 0)
      have e1 : w1.cell? ⟨w.heap.size, 1, none⟩ = some (.bool false) := (hb.cell (p := ⟨w.heap.size, 1, none⟩) (by simp)).trans (World.cell?_alloc_new w _ 92 1)
      have e2 : w1.frozen? ⟨w.heap.size, 0, none⟩ = false := (hb.frozen (p := ⟨w.heap.size, 0, none⟩) (by simp)).trans (World.frozen?_alloc_new w _ 92 0)
      have e3 : w1.frozen? ⟨w.heap.size, 1, none⟩ = false := (hb.frozen (p := ⟨w.heap.size, 1, none⟩) (by simp)).trans (World.frozen?_alloc_new w _ 92 1)
      have B1 := hide (below_alloc hb)
      clear hb
      go_wp2
      go_loop [13] (fun v => ∃ k : Nat, k ≤ 5 ∧ v = .int .i64 k) (fun v => 5 - (intOf v).toNat)
      case atStart => exact ⟨0, Nat.zero_le _, rfl⟩
      case round =>
        obtain ⟨k, hk, rfl⟩ := hrel
        by_cases hk5 : k ≤ 4
        · have hne : (word == (k : Int)) = false := by rw [beq_eq_false_iff_ne]; intro e; exact HO.out ⟨k, hk5, e⟩
          have hne8 : (word == (k : Int) + 8) = false := by rw [beq_eq_false_iff_ne]; intro e; exact HP.out ⟨k, hk5, e⟩
          go_wp2
          go_round
          case rel => exact ⟨k + 1, by omega, by go_num⟩
          case measure => simp [intOf]; omega
        · go_wp2
          refine bodyPost_ret (v := .tuple #[.int .i64 0, .int .i64 0, .agg #[.int .i64 0, .bool false]]) (by simp [results, Try.results50, go_sem, e0, e1]) rfl ⟨rfl, ?_⟩
          exact (B1.out.setCell (p := ⟨w.heap.size, 0, none⟩) (Nat.le_refl _) _).setCell (p := ⟨w.heap.size, 1, none⟩) (Nat.le_refl _) _
theorem rstep_any (n g : Nat) (at_ word : Int) (hn : n ≤ 16) (hg : g < 16) : (∃ k nx o lk, StepC k nx lk ∧ ∀ w, Calls Try.prog 50 #[.int .i64 n, .int .i64 g, .int .i64 at_, .int .i64 word] w (StepR k nx o lk w)) := by
  by_cases ha : at_ = (g : Int) / 4
  · have : at_ = ((g / 4 : Nat) : Int) := by omega
    rw [this]
    exact rstep_plain n g (g / 4) ((n + 3) / 4) hn rfl hg rfl word
  · exact rstep_own n g _ at_ word hn rfl hg ha
end Go.Proofs.Ytfikiophfphmbaa
