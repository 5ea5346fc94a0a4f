/- the chapter's example (awake), walked. -/
import Derived.Test.YtgdbjkkhmamdmaaD
import Derived.WalkKit
import Derived.WalkSpells
import Derived.ProofKit
import Derived.Outline
import Derived.Handy
import Derived.RowKit3
import Derived.BigQuiet
import Derived.Deep.QuietTactic
namespace Go.Proofs.Ytgdbjkkhmamdmaa
open Go.RowKit
set_option maxRecDepth 100000

set_option maxHeartbeats 2000000 in
theorem awake_ok (w : World) : Calls Try.prog 11 #[] w fun r w' => r = .returned (.bool true) ∧ Below w.heap.size w w' := by
  go_enter Try.func11, Try.ntmps11
  go_wp2_with fail
  have BB0 := hide (Box.new w 1 4 1 1 1 1 3 23)
  have K0 : Below (w.heap.size) w (w.alloc (.cells #[.int .i64 1, .int .i64 4, .int .i64 1, .int .i64 1, .int .i64 1, .int .i64 1, .int .i64 3] 23)) := (Below.refl _ _).alloc (Nat.le_refl _) _
  have S0 : w.heap.size ≤ (w.alloc (.cells #[.int .i64 1, .int .i64 4, .int .i64 1, .int .i64 1, .int .i64 1, .int .i64 1, .int .i64 3] 23)).heap.size := by simp
  refine (line_yes 1 4 1 1 1 1 3 7 (by unfold Ok; omega) (by omega) (by omega) _).mono ?_
  rintro r w1 ⟨rfl, hb⟩
  have K1 := below_step K0 S0 hb
  have S1 : w.heap.size ≤ w1.heap.size := Nat.le_trans S0 hb.size
  have B1 := (show Box _ _ _ _ _ _ _ _ _ from BB0.out).next hb
  have BB1 := hide B1
  obtain ⟨q, c0, c1, c2, c3, c4, c5, c6⟩ := B1
  clear hb BB0 K0 S0
  go_wp2_with fail
  clear q c0 c1 c2 c3 c4 c5 c6
  refine (granule_yes 1 4 1 1 1 1 3 3 (by unfold Ok; omega) (by omega) (by omega) _).mono ?_
  rintro r w2 ⟨rfl, hb⟩
  have K2 := below_step K1 S1 hb
  have S2 : w.heap.size ≤ w2.heap.size := Nat.le_trans S1 hb.size
  have B2 := (show Box _ _ _ _ _ _ _ _ _ from BB1.out).next hb
  have BB2 := hide B2
  obtain ⟨q, c0, c1, c2, c3, c4, c5, c6⟩ := B2
  clear hb BB1 K1 S1
  go_wp2_with fail
  clear q c0 c1 c2 c3 c4 c5 c6
  refine (bank_yes 1 4 1 1 1 1 3 5 (by unfold Ok; omega) (by omega) (by omega) _).mono ?_
  rintro r w3 ⟨rfl, hb⟩
  have K3 := below_step K2 S2 hb
  have S3 : w.heap.size ≤ w3.heap.size := Nat.le_trans S2 hb.size
  have B3 := (show Box _ _ _ _ _ _ _ _ _ from BB2.out).next hb
  have BB3 := hide B3
  obtain ⟨q, c0, c1, c2, c3, c4, c5, c6⟩ := B3
  clear hb BB2 K2 S2
  go_wp2_with fail
  clear q c0 c1 c2 c3 c4 c5 c6
  refine (words_yes 1 4 1 1 1 1 3 (by unfold Ok; omega) _).mono ?_
  rintro r w4 ⟨rfl, hb⟩
  have K4 := below_step K3 S3 hb
  have S4 : w.heap.size ≤ w4.heap.size := Nat.le_trans S3 hb.size
  have B4 := (show Box _ _ _ _ _ _ _ _ _ from BB3.out).next hb
  have BB4 := hide B4
  obtain ⟨q, c0, c1, c2, c3, c4, c5, c6⟩ := B4
  clear hb BB3 K3 S3
  go_wp2_with fail
  clear q c0 c1 c2 c3 c4 c5 c6
  refine (lines_yes 1 4 1 1 1 1 3 (by unfold Ok; omega) _).mono ?_
  rintro r w5 ⟨rfl, hb⟩
  have K5 := below_step K4 S4 hb
  have S5 : w.heap.size ≤ w5.heap.size := Nat.le_trans S4 hb.size
  have B5 := (show Box _ _ _ _ _ _ _ _ _ from BB4.out).next hb
  have BB5 := hide B5
  obtain ⟨q, c0, c1, c2, c3, c4, c5, c6⟩ := B5
  clear hb BB4 K4 S4
  go_wp2
  go_ret
  exact ⟨rfl, K5⟩
end Go.Proofs.Ytgdbjkkhmamdmaa
