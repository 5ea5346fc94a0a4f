/- The reference's Of and Granule, walked. -/
import Derived.Test.YtgdbjkkhmamdmaaB
import Derived.WalkKit
import Derived.WalkSpells
import Derived.ProofKit
import Derived.Outline
import Derived.Handy
import Derived.RowKit3
import Derived.BigQuiet
import Derived.Deep.QuietTactic
namespace Go.Proofs.Ytgdbjkkhmamdmaa
open Go.RowKit
set_option maxRecDepth 100000
theorem beqT {a b : Int} (h : (a == b) = true) : a = b := by simpa using h
theorem beqF {a b : Int} (h : (a == b) = false) : a ≠ b := by simpa using h
theorem int_eq {k : IntKind} {a b : Int} (h : a = b) : Value.int k a = Value.int k b := by rw [h]
theorem ret_iib {a b a' b' : Int} {x : Bool} (h : a = a') (h' : b = b') : Ending.returned (.tuple #[.int .i64 a, .int .i64 b, .bool x]) = .returned (.tuple #[.int .i64 a', .int .i64 b', .bool x]) := by rw [h, h']

set_option maxHeartbeats 1000000 in
theorem of_yes (m x : Int) (hm1 : 1 ≤ m) (hm2 : m ≤ 16) (hx1 : 0 ≤ x) (hx2 : x < m * 2 * 2) (w : World) :
    Calls Try.prog 16 #[.int .i64 m, .int .i64 x] w fun r w' => r = .returned (.tuple #[.int .i64 (x / 2), .int .i64 (x % 2), .bool true]) ∧ w = w' := by
  go_enter Try.func16, Try.ntmps16
  go_wp2
  go_loop [7, 8] (fun n l => ∃ k : Nat, (k : Int) ≤ m * 2 ∧ l = .int .i64 k ∧ n = .int .i64 (2 * k) ∧ 2 * (k : Int) ≤ x) (fun _ l => (m * 2 - intOf l).toNat)
  case atStart => exact ⟨0, by omega, rfl, rfl, by omega⟩
  case round =>
    obtain ⟨k, hk, rfl, rfl, hkx⟩ := hrel
    by_cases hlt : (k : Int) < m * 2
    · go_wp2
      refine wp_loop_rounds 3 ?_
      repeat any_goals (rw [rounds_succ]; go_wp2)
      · have q0 := beqT (show (2 * (k : Int) == x) = true by assumption)
        (go_ret3; exact ⟨ret_iib (by omega) (by omega), rfl⟩)
      · have q1 := beqT (show (2 * (k : Int) + 1 == x) = true by assumption)
        (go_ret3; exact ⟨ret_iib (by omega) (by omega), rfl⟩)
      · have q0 := beqF (show (2 * (k : Int) == x) = false by assumption)
        have q1 := beqF (show (2 * (k : Int) + 1 == x) = false by assumption)
        go_round
        case rel => exact ⟨k + 1, by omega, int_eq (by omega), int_eq (by omega), by omega⟩
        case measure => simp [intOf]; omega
    · exact absurd (show False by omega) id

set_option maxHeartbeats 1000000 in
theorem of_no (m x : Int) (hm1 : 1 ≤ m) (hm2 : m ≤ 16) (hx : ¬ (0 ≤ x ∧ x < m * 2 * 2)) (w : World) :
    Calls Try.prog 16 #[.int .i64 m, .int .i64 x] w fun r w' => r = .returned (.tuple #[.int .i64 0, .int .i64 0, .bool false]) ∧ w = w' := by
  go_enter Try.func16, Try.ntmps16
  go_wp2
  go_loop [7, 8] (fun n l => ∃ k : Nat, (k : Int) ≤ m * 2 ∧ l = .int .i64 k ∧ n = .int .i64 (2 * k) ) (fun _ l => (m * 2 - intOf l).toNat)
  case atStart => exact ⟨0, by omega, rfl, rfl⟩
  case round =>
    obtain ⟨k, hk, rfl, rfl⟩ := hrel
    by_cases hlt : (k : Int) < m * 2
    · go_wp2
      refine wp_loop_rounds 3 ?_
      repeat any_goals (rw [rounds_succ]; go_wp2)
      · go_round
        case rel => exact ⟨k + 1, by omega, int_eq (by omega), int_eq (by omega)⟩
        case measure => simp [intOf]; omega
    · (go_wp2; go_ret3; exact ⟨rfl, rfl⟩)

set_option maxHeartbeats 1000000 in
theorem rgran_yes (m x : Int) (hm1 : 1 ≤ m) (hm2 : m ≤ 16) (hx1 : 0 ≤ x) (hx2 : x < m * 2) (w : World) :
    Calls Try.prog 17 #[.int .i64 m, .int .i64 x] w fun r w' => r = .returned (.int .i64 (x / 2)) ∧ w = w' := by
  go_enter Try.func17, Try.ntmps17
  go_wp2
  go_loop [5, 6] (fun n l => ∃ k : Nat, (k : Int) ≤ m ∧ l = .int .i64 k ∧ n = .int .i64 (2 * k) ∧ 2 * (k : Int) ≤ x) (fun _ l => (m - intOf l).toNat)
  case atStart => exact ⟨0, by omega, rfl, rfl, by omega⟩
  case round =>
    obtain ⟨k, hk, rfl, rfl, hkx⟩ := hrel
    by_cases hlt : (k : Int) < m
    · go_wp2
      refine wp_loop_rounds 3 ?_
      repeat any_goals (rw [rounds_succ]; go_wp2)
      · have q0 := beqT (show (2 * (k : Int) == x) = true by assumption)
        (go_ret; exact ⟨ret_int (by omega), rfl⟩)
      · have q1 := beqT (show (2 * (k : Int) + 1 == x) = true by assumption)
        (go_ret; exact ⟨ret_int (by omega), rfl⟩)
      · have q0 := beqF (show (2 * (k : Int) == x) = false by assumption)
        have q1 := beqF (show (2 * (k : Int) + 1 == x) = false by assumption)
        go_round
        case rel => exact ⟨k + 1, by omega, int_eq (by omega), int_eq (by omega), by omega⟩
        case measure => simp [intOf]; omega
    · exact absurd (show False by omega) id

set_option maxHeartbeats 1000000 in
theorem rgran_no (m x : Int) (hm1 : 1 ≤ m) (hm2 : m ≤ 16) (hx : ¬ (0 ≤ x ∧ x < m * 2)) (w : World) :
    Calls Try.prog 17 #[.int .i64 m, .int .i64 x] w fun r w' => r = .returned (.int .i64 (-1)) ∧ w = w' := by
  go_enter Try.func17, Try.ntmps17
  go_wp2
  go_loop [5, 6] (fun n l => ∃ k : Nat, (k : Int) ≤ m ∧ l = .int .i64 k ∧ n = .int .i64 (2 * k) ) (fun _ l => (m - intOf l).toNat)
  case atStart => exact ⟨0, by omega, rfl, rfl⟩
  case round =>
    obtain ⟨k, hk, rfl, rfl⟩ := hrel
    by_cases hlt : (k : Int) < m
    · go_wp2
      refine wp_loop_rounds 3 ?_
      repeat any_goals (rw [rounds_succ]; go_wp2)
      · go_round
        case rel => exact ⟨k + 1, by omega, int_eq (by omega), int_eq (by omega)⟩
        case measure => simp [intOf]; omega
    · (go_wp2; go_ret; exact ⟨rfl, rfl⟩)
end Go.Proofs.Ytgdbjkkhmamdmaa
