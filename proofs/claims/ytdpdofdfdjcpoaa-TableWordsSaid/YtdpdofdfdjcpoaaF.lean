/- TableMay and TableNil, walked. -/
import Derived.Test.YtdpdofdfdjcpoaaE
import Derived.WalkKit
import Derived.WalkSpells
import Derived.ProofKit
import Derived.Outline
import Derived.Handy
import Derived.RowKit3
import Derived.BigQuiet
import Derived.Deep.QuietTactic
import Derived.Deep.RegionHeld3
import Derived.Deep.Draws
import Derived.RegionTactic
import Derived.BigRegion
import Derived.IntWalk
import Derived.LoopTactic
import Derived.OwnWalk
import Derived.Laws.AppendOwn
import Derived.Laws.OwnMore
import Derived.Laws.MakeOwn
import Derived.Laws.Pointers
import Derived.Maps.AppendAt
import Derived.Below
namespace Go.Proofs.Ytdpdofdfdjcpoaa
open Go.RowKit
set_option linter.unusedVariables false
set_option maxRecDepth 100000

theorem word_nil (j : Int) (w : World) : Calls Try.prog 17 #[.pointer none, .int .i64 j] w fun r w' => r = .returned (.tuple #[.int .i64 0, .int .i64 2]) ∧ w = w' := by
  go_enter Try.func17, Try.ntmps17
  go_wp2
  go_ret2
  exact ⟨rfl, rfl⟩
theorem words_nil (w : World) : Calls Try.prog 19 #[.pointer none] w fun r w' => r = .returned (.slice none 0 0) ∧ w = w' := by
  go_enter Try.func19, Try.ntmps19
  go_wp2
  go_ret
  exact ⟨rfl, rfl⟩
theorem copy_nil (w : World) : Calls Try.prog 13 #[.pointer none] w fun r w' => r = .returned (.pointer none) ∧ w = w' := by
  go_enter Try.func13, Try.ntmps13
  go_wp2
  go_ret
  exact ⟨rfl, rfl⟩
set_option maxHeartbeats 4000000 in
theorem nil_law (g x : Int) (b : Bool) (at_ : Int) (w : World) : Calls Try.prog 7 #[.agg #[.int .i64 g, .int .i64 x, .bool b], .int .i64 at_] w fun r w' => r = .returned (.bool true) ∧ Below w.heap.size w w' := by
  go_enter Try.func7, Try.ntmps7
  go_wp2_with fail
  refine (get_nil g _).mono ?_
  rintro r w1 ⟨rfl, hb1⟩
  have q1 := hide (below_alloc hb1)
  have c0 := cell_next hb1 (p := w.heap.size) (o := 0) (by simp) (World.cell?_alloc_new _ _ _ _)
  have c1 := cell_next hb1 (p := w.heap.size) (o := 1) (by simp) (World.cell?_alloc_new _ _ _ _)
  have c2 := cell_next hb1 (p := w.heap.size) (o := 2) (by simp) (World.cell?_alloc_new _ _ _ _)
  have s1 : w.heap.size < w1.heap.size := Nat.lt_of_lt_of_le (by simp) hb1.size
  go_wp2_with fail
  refine (word_nil at_ _).mono ?_
  rintro r w2 ⟨rfl, rfl⟩
  go_wp2_with fail
  refine (set_nil g x b _).mono ?_
  rintro r w3 ⟨rfl, hb3⟩
  have q3 := hide (below_step q1.out q1.out.size (below_alloc hb3))
  go_wp2_with fail
  refine (words_nil _).mono ?_
  rintro r w4 ⟨rfl, rfl⟩
  go_wp2_with fail
  refine (copy_nil _).mono ?_
  rintro r w4 ⟨rfl, rfl⟩
  go_wp2_with fail
  refine (awake_ok _).mono ?_
  rintro r w4 ⟨rfl, hb4⟩
  go_wp2
  go_ret
  exact ⟨rfl, below_step q3.out q3.out.size hb4⟩
def okm (world owner : Int) : Prop := 0 ≤ world ∧ 0 ≤ owner ∧ owner ≤ 4 ∧ (world = 0 ∨ owner = world ∨ owner = 4)
theorem may_b (world owner : Int) (b : Bool) (hb : b = true ↔ okm world owner ∧ world < 4) (w : World) : Calls Try.prog 21 #[.int .i64 world, .int .i64 owner] w fun r w' => r = .returned (.bool b) ∧ w = w' := by
  refine (table_may world owner w).mono ?_
  rintro r w1 ⟨rfl, h⟩
  refine ⟨ret_bool ?_, h⟩
  unfold okm at hb
  cases b
  · apply decide_eq_false
    intro hh
    exact absurd (hb.2 (by omega)) (by simp)
  · apply decide_eq_true
    have := hb.1 rfl
    omega
set_option maxHeartbeats 8000000 in
theorem may_law (world owner : Int) (w : World) : Calls Try.prog 6 #[.int .i64 world, .int .i64 owner] w fun r w' => r = .returned (.bool true) ∧ Below w.heap.size w w' := by
  go_enter Try.func6, Try.ntmps6
  go_wp2
  go_loop [5, 6] (fun v5 v6 => ∃ (k : Nat) (b : Bool), k ≤ 4 ∧ v6 = .int .i64 k ∧ v5 = .bool b ∧ (b = true ↔ okm world owner ∧ world < k)) (fun _ v6 => 4 - (intOf v6).toNat)
  case atStart => exact ⟨0, false, by omega, rfl, rfl, by unfold okm; simp; omega⟩
  case round =>
    obtain ⟨k, b, hk, rfl, rfl, hb⟩ := hrel
    replace hb := hide hb
    by_cases hlt : k < 4
    · have hk3 : (k : Int) ≤ 3 := by omega
      go_wp2
      go_loop [5, 7] (fun v5 v7 => ∃ (m : Nat) (b : Bool), m ≤ 5 ∧ v7 = .int .i64 m ∧ v5 = .bool b ∧ (b = true ↔ okm world owner ∧ (world < k ∨ world = k ∧ owner < m))) (fun _ v7 => 5 - (intOf v7).toNat)
      case atStart => exact ⟨0, b, by omega, rfl, rfl, hb.out.trans (by unfold okm; constructor <;> intro h <;> omega)⟩
      case round =>
        obtain ⟨m, b2, hm, rfl, rfl, hb2⟩ := hrel
        replace hb2 := hide hb2
        by_cases hlt2 : m < 5
        · have hm4 : (m : Int) ≤ 4 := by omega
          by_cases hw : world = k
          · have t0 : ((k : Int) == world) = true := by simpa using hw.symm
            by_cases ho : owner = m
            · have t1 : ((m : Int) == owner) = true := by simpa using ho.symm
              have HW := hide hw
              have HO := hide ho
              clear hw ho
              by_cases e0 : k = 0
              · have u0 : ((k : Int) == 0) = true := by simp [e0]
                have u1 : (k == 0) = true := by simp [e0]
                replace e0 := hide e0
                go_wp2
                go_round
                case rel => exact ⟨m + 1, true, by omega, int_eq (by omega), rfl, by have := HW.out; have := HO.out; have := e0.out; unfold okm; simp; omega⟩
                case measure => simp [intOf]; omega
              · have u0 : ((k : Int) == 0) = false := by simpa using e0
                have u1 : (k == 0) = false := by simpa using e0
                replace e0 := hide e0
                by_cases e1 : m = k
                · have u2 : ((m : Int) == k) = true := by simp [e1]
                  have u3 : (m == k) = true := by simp [e1]
                  replace e1 := hide e1
                  go_wp2
                  go_round
                  case rel => exact ⟨m + 1, true, by omega, int_eq (by omega), rfl, by have := HW.out; have := HO.out; have := e1.out; unfold okm; simp; omega⟩
                  case measure => simp [intOf]; omega
                · have u2 : ((m : Int) == k) = false := by simp; omega
                  have u3 : (m == k) = false := by simpa using e1
                  replace e1 := hide e1
                  by_cases e2 : m = 4
                  · have u4 : ((m : Int) == 4) = true := by simp [e2]
                    have u5 : (m == 4) = true := by simp [e2]
                    replace e2 := hide e2
                    go_wp2
                    go_round
                    case rel => exact ⟨m + 1, true, by omega, int_eq (by omega), rfl, by have := HW.out; have := HO.out; have := e2.out; unfold okm; simp; omega⟩
                    case measure => simp [intOf]; omega
                  · have u4 : ((m : Int) == 4) = false := by simp; omega
                    have u5 : (m == 4) = false := by simpa using e2
                    replace e2 := hide e2
                    go_wp2
                    go_round
                    case rel => exact ⟨m + 1, false, by omega, int_eq (by omega), rfl, by have := HW.out; have := HO.out; have := e0.out; have := e1.out; have := e2.out; unfold okm; simp; omega⟩
                    case measure => simp [intOf]; omega
            · have t1 : ((m : Int) == owner) = false := by simp; omega
              have HW := hide hw
              have HO := hide ho
              clear hw ho
              go_wp2
              go_round
              case rel => exact ⟨m + 1, b2, by omega, int_eq (by omega), rfl, hb2.out.trans (by have := HO.out; unfold okm; constructor <;> intro h <;> omega)⟩
              case measure => simp [intOf]; omega
          · have t0 : ((k : Int) == world) = false := by simp; omega
            have HW := hide hw
            clear hw
            go_wp2
            go_round
            case rel => exact ⟨m + 1, b2, by omega, int_eq (by omega), rfl, hb2.out.trans (by have := HW.out; unfold okm; constructor <;> intro h <;> omega)⟩
            case measure => simp [intOf]; omega
        · obtain rfl : m = 5 := by omega
          go_wp2
          go_round
          case rel => exact ⟨k + 1, b2, by omega, int_eq (by omega), rfl, hb2.out.trans (by unfold okm; constructor <;> intro h <;> omega)⟩
          case measure => simp [intOf]; omega
    · obtain rfl : k = 4 := by omega
      have hb' := hide (hb.out.trans (by unfold okm; constructor <;> intro h <;> omega : _ ↔ okm world owner ∧ world < 4))
      go_wp2_with fail
      refine (may_b world owner b hb'.out _).mono ?_
      rintro r w1 ⟨rfl, rfl⟩
      go_wp2_with fail
      refine (awake_ok _).mono ?_
      rintro r w4 ⟨rfl, hb4⟩
      go_wp2
      go_ret
      exact ⟨rfl, hb4⟩
end Go.Proofs.Ytdpdofdfdjcpoaa
