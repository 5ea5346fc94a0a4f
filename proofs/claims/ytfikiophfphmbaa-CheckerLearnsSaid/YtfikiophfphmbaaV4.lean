/- The reference of layer 9 (checker): Step. -/
import Derived.Test.YtfikiophfphmbaaC1
import Derived.WalkKit
import Derived.WalkSpells
import Derived.ProofKit
import Derived.Outline
import Derived.Handy
import Derived.RowKit3
import Derived.BigQuiet
import Derived.Deep.QuietTactic
import Derived.Deep.RegionHeld3
import Derived.Deep.Draws
import Derived.Deep.RegionLaw
import Derived.RegionTactic
import Derived.BigRegion
import Derived.IntWalk
import Derived.LoopTactic
import Derived.OwnWalk
import Derived.Laws.AppendOwn
import Derived.Laws.OwnMore
import Derived.Laws.MakeOwn
import Derived.Laws.Pointers
import Derived.Maps.AppendAt
import Derived.Deep.AppendLies
import Derived.Below
namespace Go.Proofs.Ytfikiophfphmbaa
open Go.RowKit
set_option linter.unusedVariables false
set_option maxRecDepth 100000

theorem rgroups (n m : Nat) (h : n ≤ 16) (hm : (n + 3) / 4 = m) (w : World) : Calls Try.prog 51 #[.int .i64 n] w fun r w' => r = .returned (.int .i64 m) ∧ Below w.heap.size w w' := by
  have hm4 : m ≤ 4 := by omega
  have hA := hide hm
  go_enter Try.func51, Try.ntmps51
  go_wp2
  go_loop [3] (fun v2 => ∃ k : Nat, k ≤ m ∧ v2 = .int .i64 k) (fun v2 => m - (intOf v2).toNat)
  case atStart => exact ⟨0, Nat.zero_le _, rfl⟩
  case round =>
    obtain ⟨k, hk, rfl⟩ := hrel
    have hk4 : k ≤ 4 := by omega
    by_cases hlt : k * 4 < n
    · have hkm : k < m := by have := hA.out; omega
      go_wp2
      go_round
      case rel => exact ⟨k + 1, by omega, by go_num⟩
      case measure => simp [intOf]; omega
    · have e : k = m := by have := hA.out; omega
      subst e
      go_wp2
      go_ret
      exact ⟨rfl, Below.refl _ _⟩
def StepC (k nx : Int) (lk : Bool) : Prop := (k = 0 ∧ lk = false) ∨ (k = 1 ∧ lk = false) ∨ (k = 2 ∧ nx = 0)
section
variable (n g q m : Nat) (hn : n ≤ 16) (hm : (n + 3) / 4 = m) (hg : g < 16) (hq : g / 4 = q)
include hn hm hg hq
def StepR (k nx o : Int) (lk : Bool) (w : World) (r : Ending) (w' : World) : Prop := r = .returned (.tuple #[.int .i64 k, .int .i64 nx, .agg #[.int .i64 o, .bool lk]]) ∧ Below w.heap.size w w'
set_option maxHeartbeats 4000000 in
/-- At the group's own place. -/
theorem rstep_plain (word : Int) : (∃ k nx o lk, StepC k nx lk ∧ ∀ w, Calls Try.prog 50 #[.int .i64 n, .int .i64 g, .int .i64 q, .int .i64 word] w (StepR k nx o lk w)) := by
  have hg0 : (0 : Int) ≤ g := by omega
  have hg1 : (g : Int) < 16 := by omega
  have hm4 : m ≤ 4 := by omega
  have hq4 : q ≤ 3 := by omega
  have hqe : ((g : Int) / 4) = q := by omega
  have hqt : ((q : Int) == (g : Int) / 4) = true := by simp; omega
  by_cases ho : ∃ o : Nat, o ≤ 4 ∧ word = 4 * o
  · obtain ⟨o, ho, rfl⟩ := ho
    refine ⟨2, 0, o, false, .inr (.inr ⟨rfl, rfl⟩), fun w => ?_⟩
    have HM := hide hm
    have HQ := hide hqe
    clear hq hm hqe
    go_enter Try.func50, Try.ntmps50
    go_wp2_with fail
    refine (rgroups n m hn HM.out _).mono ?_
    rintro r w1 ⟨rfl, hb⟩
    have e0 : w1.cell? ⟨w.heap.size, 0, none⟩ = some (.int .i64 0) := (hb.cell (p := ⟨w.heap.size, 0, none⟩) (by simp)).trans (World.cell?_alloc_new w _ 92 0)
    have e1 : w1.cell? ⟨w.heap.size, 1, none⟩ = some (.bool false) := (hb.cell (p := ⟨w.heap.size, 1, none⟩) (by simp)).trans (World.cell?_alloc_new w _ 92 1)
    have e2 : w1.frozen? ⟨w.heap.size, 0, none⟩ = false := (hb.frozen (p := ⟨w.heap.size, 0, none⟩) (by simp)).trans (World.frozen?_alloc_new w _ 92 0)
    have e3 : w1.frozen? ⟨w.heap.size, 1, none⟩ = false := (hb.frozen (p := ⟨w.heap.size, 1, none⟩) (by simp)).trans (World.frozen?_alloc_new w _ 92 1)
    have B1 := hide (below_alloc hb)
    clear hb
    go_wp2
    go_loop [12] (fun v => ∃ k : Nat, k ≤ o ∧ v = .int .i64 k) (fun v => 5 - (intOf v).toNat)
    case atStart => exact ⟨0, Nat.zero_le _, rfl⟩
    case round =>
      obtain ⟨k, hk, rfl⟩ := hrel
      by_cases hko : k = o
      · subst hko
        go_wp2
        refine bodyPost_ret (v := .tuple #[.int .i64 2, .int .i64 0, .agg #[.int .i64 k, .bool false]]) (by simp [results, Try.results50, go_sem, e0, e1]) rfl ⟨rfl, ?_⟩
        exact (B1.out.setCell (p := ⟨w.heap.size, 0, none⟩) (Nat.le_refl _) _).setCell (p := ⟨w.heap.size, 1, none⟩) (Nat.le_refl _) _
      · have hne : ((4 * (o : Int)) == 4 * (k : Int)) = false := by rw [beq_eq_false_iff_ne]; omega
        go_wp2
        go_round
        case rel => exact ⟨k + 1, by omega, by go_num⟩
        case measure => simp [intOf]; omega
  · by_cases hp : word = 4 * ((m : Int) + 4 * q) + 1
    · refine ⟨1, m + g, 0, false, .inr (.inl ⟨rfl, rfl⟩), fun w => ?_⟩
      have HM := hide hm
      have HQ := hide hqe
      have HO := hide ho
      have HP := hide hp
      clear hq hm hqe ho hp
      go_enter Try.func50, Try.ntmps50
      go_wp2_with fail
      refine (rgroups n m hn HM.out _).mono ?_
      rintro r w1 ⟨rfl, hb⟩
      have e0 : w1.cell? ⟨w.heap.size, 0, none⟩ = some (.int .i64 0) := (hb.cell (p := ⟨w.heap.size, 0, none⟩) (by simp)).trans (World.cell?_alloc_new w _ 92 0)
      have e1 : w1.cell? ⟨w.heap.size, 1, none⟩ = some (.bool false) := (hb.cell (p := ⟨w.heap.size, 1, none⟩) (by simp)).trans (World.cell?_alloc_new w _ 92 1)
      have e2 : w1.frozen? ⟨w.heap.size, 0, none⟩ = false := (hb.frozen (p := ⟨w.heap.size, 0, none⟩) (by simp)).trans (World.frozen?_alloc_new w _ 92 0)
      have e3 : w1.frozen? ⟨w.heap.size, 1, none⟩ = false := (hb.frozen (p := ⟨w.heap.size, 1, none⟩) (by simp)).trans (World.frozen?_alloc_new w _ 92 1)
      have B1 := hide (below_alloc hb)
      clear hb
      go_wp2
      go_loop [12] (fun v => ∃ k : Nat, k ≤ 5 ∧ v = .int .i64 k) (fun v => 5 - (intOf v).toNat)
      case atStart => exact ⟨0, Nat.zero_le _, rfl⟩
      case round =>
        obtain ⟨k, hk, rfl⟩ := hrel
        by_cases hk5 : k ≤ 4
        · have hne : (word == 4 * (k : Int)) = false := by rw [beq_eq_false_iff_ne]; intro e; exact HO.out ⟨k, hk5, e⟩
          go_wp2
          go_round
          case rel => exact ⟨k + 1, by omega, by go_num⟩
          case measure => simp [intOf]; omega
        · have hne : (word == 4 * ((m : Int) + (g : Int) / 4 * 4) + 1) = true := by have := HP.out; have := HQ.out; simp; omega
          go_wp2
          refine bodyPost_ret (v := .tuple #[.int .i64 1, .int .i64 (m + g), .agg #[.int .i64 0, .bool false]]) (by simp [results, Try.results50, go_sem, e0, e1]) rfl ⟨rfl, ?_⟩
          exact (B1.out.setCell (p := ⟨w.heap.size, 0, none⟩) (Nat.le_refl _) _).setCell (p := ⟨w.heap.size, 1, none⟩) (Nat.le_refl _) _
    · refine ⟨0, 0, 0, false, .inl ⟨rfl, rfl⟩, fun w => ?_⟩
      have HM := hide hm
      have HQ := hide hqe
      have HO := hide ho
      have HP := hide hp
      clear hq hm hqe ho hp
      go_enter Try.func50, Try.ntmps50
      go_wp2_with fail
      refine (rgroups n m hn HM.out _).mono ?_
      rintro r w1 ⟨rfl, hb⟩
      have e0 : w1.cell? ⟨w.heap.size, 0, none⟩ = some (.int .i64 0) := (hb.cell (p := ⟨w.heap.size, 0, none⟩) (by simp)).trans (World.cell?_alloc_new w _ 92 0)
      have e1 : w1.cell? ⟨w.heap.size, 1, none⟩ = some (.bool false) := (hb.cell (p := ⟨w.heap.size, 1, none⟩) (by simp)).trans (World.cell?_alloc_new w _ 92 1)
      have e2 : w1.frozen? ⟨w.heap.size, 0, none⟩ = false := (hb.frozen (p := ⟨w.heap.size, 0, none⟩) (by simp)).trans (World.frozen?_alloc_new w _ 92 0)
      have e3 : w1.frozen? ⟨w.heap.size, 1, none⟩ = false := (hb.frozen (p := ⟨w.heap.size, 1, none⟩) (by simp)).trans (World.frozen?_alloc_new w _ 92 1)
      have B1 := hide (below_alloc hb)
      clear hb
      go_wp2
      go_loop [12] (fun v => ∃ k : Nat, k ≤ 5 ∧ v = .int .i64 k) (fun v => 5 - (intOf v).toNat)
      case atStart => exact ⟨0, Nat.zero_le _, rfl⟩
      case round =>
        obtain ⟨k, hk, rfl⟩ := hrel
        by_cases hk5 : k ≤ 4
        · have hne : (word == 4 * (k : Int)) = false := by rw [beq_eq_false_iff_ne]; intro e; exact HO.out ⟨k, hk5, e⟩
          go_wp2
          go_round
          case rel => exact ⟨k + 1, by omega, by go_num⟩
          case measure => simp [intOf]; omega
        · have hne : (word == 4 * ((m : Int) + (g : Int) / 4 * 4) + 1) = false := by have := HP.out; have := HQ.out; rw [beq_eq_false_iff_ne]; omega
          go_wp2
          refine bodyPost_ret (v := .tuple #[.int .i64 0, .int .i64 0, .agg #[.int .i64 0, .bool false]]) (by simp [results, Try.results50, go_sem, e0, e1]) rfl ⟨rfl, ?_⟩
          exact (B1.out.setCell (p := ⟨w.heap.size, 0, none⟩) (Nat.le_refl _) _).setCell (p := ⟨w.heap.size, 1, none⟩) (Nat.le_refl _) _
end
end Go.Proofs.Ytfikiophfphmbaa
