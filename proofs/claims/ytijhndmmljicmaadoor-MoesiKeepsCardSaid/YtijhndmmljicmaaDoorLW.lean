/- MoesiStates, MoesiProbes, MoesiTwice, walked. -/
import Derived.Test.YtijhndmmljicmaaDoorG
import Derived.WalkKit
import Derived.WalkSpells
import Derived.ProofKit
import Derived.Outline
import Derived.Handy
import Derived.RowKit3
import Derived.BigQuiet
import Derived.Deep.QuietTactic
import Derived.Deep.RegionHeld3
import Derived.IntWalk
namespace Go.Proofs.YtijhndmmljicmaaDoor
open Go.RowKit
set_option linter.unusedVariables false
set_option maxRecDepth 100000

set_option maxHeartbeats 2000000 in
theorem states_0  (w : World) (T : Tab w) : Calls Tryd.prog 3 #[.int .i64 0] w fun r w' => r = .returned (.bool true) ∧ Below w.heap.size w w' := by
  have K : Below w.heap.size w w := Below.refl _ _
  have TT := hide T
  clear T
  go_enter Tryd.func3, Tryd.ntmps3
  go_wp2_with fail
  refine (valid_v 0 false (by decide) _).mono ?_
  rintro r w0 ⟨rfl, rfl⟩
  go_wp2_with fail
  refine (rload_v 0 false (by decide) _).mono ?_
  rintro r w0 ⟨rfl, rfl⟩
  go_wp2_with fail
  refine (load_v 0 false (by decide) _ (unhide TT)).mono ?_
  rintro r w1 ⟨rfl, hb⟩
  have K := below_step K K.size hb
  have TT := hide ((unhide TT).next hb)
  clear hb
  go_wp2_with fail
  refine (rload_v 0 false (by decide) _).mono ?_
  rintro r w0 ⟨rfl, rfl⟩
  go_wp2_with fail
  refine (store_v 0 false (by decide) _ (unhide TT)).mono ?_
  rintro r w2 ⟨rfl, hb⟩
  have K := below_step K K.size hb
  have TT := hide ((unhide TT).next hb)
  clear hb
  go_wp2_with fail
  refine (rstore_v 0 false (by decide) _).mono ?_
  rintro r w0 ⟨rfl, rfl⟩
  go_wp2_with fail
  refine (dirty_v 0 false (by decide) _ (unhide TT)).mono ?_
  rintro r w3 ⟨rfl, hb⟩
  have K := below_step K K.size hb
  have TT := hide ((unhide TT).next hb)
  clear hb
  go_wp2_with fail
  refine (rdirty_v 0 false (by decide) _).mono ?_
  rintro r w0 ⟨rfl, rfl⟩
  go_wp2_with fail
  refine (owner_v 0 false (by decide) _ (unhide TT)).mono ?_
  rintro r w4 ⟨rfl, hb⟩
  have K := below_step K K.size hb
  have TT := hide ((unhide TT).next hb)
  clear hb
  go_wp2_with fail
  refine (rowner_v 0 false (by decide) _).mono ?_
  rintro r w0 ⟨rfl, rfl⟩
  go_wp2_with fail
  refine (name_any 0 _ (unhide TT)).mono ?_
  rintro r w5 ⟨rfl, hb⟩
  have K := below_step K K.size hb
  have TT := hide ((unhide TT).next hb)
  clear hb
  go_wp2_with fail
  refine (letter_any 0 _).mono ?_
  rintro r w0 ⟨rfl, rfl⟩
  go_wp2_with fail
  refine (wrote_0 _ (unhide TT)).mono ?_
  rintro r w6 ⟨rfl, hb⟩
  have K := below_step K K.size hb
  have TT := hide ((unhide TT).next hb)
  clear hb
  go_wp2_with fail
  refine (letter_0 _).mono ?_
  rintro r w0 ⟨rfl, rfl⟩
  go_wp2_with fail
  refine (rstore_v 0 false (by decide) _).mono ?_
  rintro r w0 ⟨rfl, rfl⟩
  go_wp2_with fail
  refine (awake_ok _ (unhide TT)).mono ?_
  rintro r w7 ⟨rfl, hb⟩
  have K := below_step K K.size hb
  have TT := hide ((unhide TT).next hb)
  clear hb
  go_wp2
  go_ret
  exact ⟨rfl, K⟩

set_option maxHeartbeats 2000000 in
theorem states_1  (w : World) (T : Tab w) : Calls Tryd.prog 3 #[.int .i64 1] w fun r w' => r = .returned (.bool true) ∧ Below w.heap.size w w' := by
  have K : Below w.heap.size w w := Below.refl _ _
  have TT := hide T
  clear T
  go_enter Tryd.func3, Tryd.ntmps3
  go_wp2_with fail
  refine (valid_v 1 true (by decide) _).mono ?_
  rintro r w0 ⟨rfl, rfl⟩
  go_wp2_with fail
  refine (rload_v 1 true (by decide) _).mono ?_
  rintro r w0 ⟨rfl, rfl⟩
  go_wp2_with fail
  refine (load_v 1 true (by decide) _ (unhide TT)).mono ?_
  rintro r w1 ⟨rfl, hb⟩
  have K := below_step K K.size hb
  have TT := hide ((unhide TT).next hb)
  clear hb
  go_wp2_with fail
  refine (rload_v 1 true (by decide) _).mono ?_
  rintro r w0 ⟨rfl, rfl⟩
  go_wp2_with fail
  refine (store_v 1 false (by decide) _ (unhide TT)).mono ?_
  rintro r w2 ⟨rfl, hb⟩
  have K := below_step K K.size hb
  have TT := hide ((unhide TT).next hb)
  clear hb
  go_wp2_with fail
  refine (rstore_v 1 false (by decide) _).mono ?_
  rintro r w0 ⟨rfl, rfl⟩
  go_wp2_with fail
  refine (dirty_v 1 false (by decide) _ (unhide TT)).mono ?_
  rintro r w3 ⟨rfl, hb⟩
  have K := below_step K K.size hb
  have TT := hide ((unhide TT).next hb)
  clear hb
  go_wp2_with fail
  refine (rdirty_v 1 false (by decide) _).mono ?_
  rintro r w0 ⟨rfl, rfl⟩
  go_wp2_with fail
  refine (owner_v 1 false (by decide) _ (unhide TT)).mono ?_
  rintro r w4 ⟨rfl, hb⟩
  have K := below_step K K.size hb
  have TT := hide ((unhide TT).next hb)
  clear hb
  go_wp2_with fail
  refine (rowner_v 1 false (by decide) _).mono ?_
  rintro r w0 ⟨rfl, rfl⟩
  go_wp2_with fail
  refine (name_any 1 _ (unhide TT)).mono ?_
  rintro r w5 ⟨rfl, hb⟩
  have K := below_step K K.size hb
  have TT := hide ((unhide TT).next hb)
  clear hb
  go_wp2_with fail
  refine (letter_any 1 _).mono ?_
  rintro r w0 ⟨rfl, rfl⟩
  go_wp2_with fail
  refine (wrote_1 _ (unhide TT)).mono ?_
  rintro r w6 ⟨rfl, hb⟩
  have K := below_step K K.size hb
  have TT := hide ((unhide TT).next hb)
  clear hb
  go_wp2_with fail
  refine (letter_1 _).mono ?_
  rintro r w0 ⟨rfl, rfl⟩
  go_wp2_with fail
  refine (rstore_v 1 false (by decide) _).mono ?_
  rintro r w0 ⟨rfl, rfl⟩
  go_wp2_with fail
  refine (awake_ok _ (unhide TT)).mono ?_
  rintro r w7 ⟨rfl, hb⟩
  have K := below_step K K.size hb
  have TT := hide ((unhide TT).next hb)
  clear hb
  go_wp2
  go_ret
  exact ⟨rfl, K⟩

set_option maxHeartbeats 2000000 in
theorem states_2  (w : World) (T : Tab w) : Calls Tryd.prog 3 #[.int .i64 2] w fun r w' => r = .returned (.bool true) ∧ Below w.heap.size w w' := by
  have K : Below w.heap.size w w := Below.refl _ _
  have TT := hide T
  clear T
  go_enter Tryd.func3, Tryd.ntmps3
  go_wp2_with fail
  refine (valid_v 2 true (by decide) _).mono ?_
  rintro r w0 ⟨rfl, rfl⟩
  go_wp2_with fail
  refine (rload_v 2 true (by decide) _).mono ?_
  rintro r w0 ⟨rfl, rfl⟩
  go_wp2_with fail
  refine (load_v 2 true (by decide) _ (unhide TT)).mono ?_
  rintro r w1 ⟨rfl, hb⟩
  have K := below_step K K.size hb
  have TT := hide ((unhide TT).next hb)
  clear hb
  go_wp2_with fail
  refine (rload_v 2 true (by decide) _).mono ?_
  rintro r w0 ⟨rfl, rfl⟩
  go_wp2_with fail
  refine (store_v 2 true (by decide) _ (unhide TT)).mono ?_
  rintro r w2 ⟨rfl, hb⟩
  have K := below_step K K.size hb
  have TT := hide ((unhide TT).next hb)
  clear hb
  go_wp2_with fail
  refine (rstore_v 2 true (by decide) _).mono ?_
  rintro r w0 ⟨rfl, rfl⟩
  go_wp2_with fail
  refine (dirty_v 2 false (by decide) _ (unhide TT)).mono ?_
  rintro r w3 ⟨rfl, hb⟩
  have K := below_step K K.size hb
  have TT := hide ((unhide TT).next hb)
  clear hb
  go_wp2_with fail
  refine (rdirty_v 2 false (by decide) _).mono ?_
  rintro r w0 ⟨rfl, rfl⟩
  go_wp2_with fail
  refine (owner_v 2 true (by decide) _ (unhide TT)).mono ?_
  rintro r w4 ⟨rfl, hb⟩
  have K := below_step K K.size hb
  have TT := hide ((unhide TT).next hb)
  clear hb
  go_wp2_with fail
  refine (rowner_v 2 true (by decide) _).mono ?_
  rintro r w0 ⟨rfl, rfl⟩
  go_wp2_with fail
  refine (name_any 2 _ (unhide TT)).mono ?_
  rintro r w5 ⟨rfl, hb⟩
  have K := below_step K K.size hb
  have TT := hide ((unhide TT).next hb)
  clear hb
  go_wp2_with fail
  refine (letter_any 2 _).mono ?_
  rintro r w0 ⟨rfl, rfl⟩
  go_wp2_with fail
  refine (wrote_2 _ (unhide TT)).mono ?_
  rintro r w6 ⟨rfl, hb⟩
  have K := below_step K K.size hb
  have TT := hide ((unhide TT).next hb)
  clear hb
  go_wp2_with fail
  refine (letter_2 _).mono ?_
  rintro r w0 ⟨rfl, rfl⟩
  go_wp2_with fail
  refine (rstore_v 2 true (by decide) _).mono ?_
  rintro r w0 ⟨rfl, rfl⟩
  go_wp2_with fail
  refine (awake_ok _ (unhide TT)).mono ?_
  rintro r w7 ⟨rfl, hb⟩
  have K := below_step K K.size hb
  have TT := hide ((unhide TT).next hb)
  clear hb
  go_wp2
  go_ret
  exact ⟨rfl, K⟩

set_option maxHeartbeats 2000000 in
theorem states_3  (w : World) (T : Tab w) : Calls Tryd.prog 3 #[.int .i64 3] w fun r w' => r = .returned (.bool true) ∧ Below w.heap.size w w' := by
  have K : Below w.heap.size w w := Below.refl _ _
  have TT := hide T
  clear T
  go_enter Tryd.func3, Tryd.ntmps3
  go_wp2_with fail
  refine (valid_v 3 true (by decide) _).mono ?_
  rintro r w0 ⟨rfl, rfl⟩
  go_wp2_with fail
  refine (rload_v 3 true (by decide) _).mono ?_
  rintro r w0 ⟨rfl, rfl⟩
  go_wp2_with fail
  refine (load_v 3 true (by decide) _ (unhide TT)).mono ?_
  rintro r w1 ⟨rfl, hb⟩
  have K := below_step K K.size hb
  have TT := hide ((unhide TT).next hb)
  clear hb
  go_wp2_with fail
  refine (rload_v 3 true (by decide) _).mono ?_
  rintro r w0 ⟨rfl, rfl⟩
  go_wp2_with fail
  refine (store_v 3 false (by decide) _ (unhide TT)).mono ?_
  rintro r w2 ⟨rfl, hb⟩
  have K := below_step K K.size hb
  have TT := hide ((unhide TT).next hb)
  clear hb
  go_wp2_with fail
  refine (rstore_v 3 false (by decide) _).mono ?_
  rintro r w0 ⟨rfl, rfl⟩
  go_wp2_with fail
  refine (dirty_v 3 true (by decide) _ (unhide TT)).mono ?_
  rintro r w3 ⟨rfl, hb⟩
  have K := below_step K K.size hb
  have TT := hide ((unhide TT).next hb)
  clear hb
  go_wp2_with fail
  refine (rdirty_v 3 true (by decide) _).mono ?_
  rintro r w0 ⟨rfl, rfl⟩
  go_wp2_with fail
  refine (owner_v 3 true (by decide) _ (unhide TT)).mono ?_
  rintro r w4 ⟨rfl, hb⟩
  have K := below_step K K.size hb
  have TT := hide ((unhide TT).next hb)
  clear hb
  go_wp2_with fail
  refine (rowner_v 3 true (by decide) _).mono ?_
  rintro r w0 ⟨rfl, rfl⟩
  go_wp2_with fail
  refine (name_any 3 _ (unhide TT)).mono ?_
  rintro r w5 ⟨rfl, hb⟩
  have K := below_step K K.size hb
  have TT := hide ((unhide TT).next hb)
  clear hb
  go_wp2_with fail
  refine (letter_any 3 _).mono ?_
  rintro r w0 ⟨rfl, rfl⟩
  go_wp2_with fail
  refine (wrote_3 _ (unhide TT)).mono ?_
  rintro r w6 ⟨rfl, hb⟩
  have K := below_step K K.size hb
  have TT := hide ((unhide TT).next hb)
  clear hb
  go_wp2_with fail
  refine (letter_3 _).mono ?_
  rintro r w0 ⟨rfl, rfl⟩
  go_wp2_with fail
  refine (rstore_v 3 false (by decide) _).mono ?_
  rintro r w0 ⟨rfl, rfl⟩
  go_wp2_with fail
  refine (awake_ok _ (unhide TT)).mono ?_
  rintro r w7 ⟨rfl, hb⟩
  have K := below_step K K.size hb
  have TT := hide ((unhide TT).next hb)
  clear hb
  go_wp2
  go_ret
  exact ⟨rfl, K⟩

set_option maxHeartbeats 2000000 in
theorem states_4  (w : World) (T : Tab w) : Calls Tryd.prog 3 #[.int .i64 4] w fun r w' => r = .returned (.bool true) ∧ Below w.heap.size w w' := by
  have K : Below w.heap.size w w := Below.refl _ _
  have TT := hide T
  clear T
  go_enter Tryd.func3, Tryd.ntmps3
  go_wp2_with fail
  refine (valid_v 4 true (by decide) _).mono ?_
  rintro r w0 ⟨rfl, rfl⟩
  go_wp2_with fail
  refine (rload_v 4 true (by decide) _).mono ?_
  rintro r w0 ⟨rfl, rfl⟩
  go_wp2_with fail
  refine (load_v 4 true (by decide) _ (unhide TT)).mono ?_
  rintro r w1 ⟨rfl, hb⟩
  have K := below_step K K.size hb
  have TT := hide ((unhide TT).next hb)
  clear hb
  go_wp2_with fail
  refine (rload_v 4 true (by decide) _).mono ?_
  rintro r w0 ⟨rfl, rfl⟩
  go_wp2_with fail
  refine (store_v 4 true (by decide) _ (unhide TT)).mono ?_
  rintro r w2 ⟨rfl, hb⟩
  have K := below_step K K.size hb
  have TT := hide ((unhide TT).next hb)
  clear hb
  go_wp2_with fail
  refine (rstore_v 4 true (by decide) _).mono ?_
  rintro r w0 ⟨rfl, rfl⟩
  go_wp2_with fail
  refine (dirty_v 4 true (by decide) _ (unhide TT)).mono ?_
  rintro r w3 ⟨rfl, hb⟩
  have K := below_step K K.size hb
  have TT := hide ((unhide TT).next hb)
  clear hb
  go_wp2_with fail
  refine (rdirty_v 4 true (by decide) _).mono ?_
  rintro r w0 ⟨rfl, rfl⟩
  go_wp2_with fail
  refine (owner_v 4 true (by decide) _ (unhide TT)).mono ?_
  rintro r w4 ⟨rfl, hb⟩
  have K := below_step K K.size hb
  have TT := hide ((unhide TT).next hb)
  clear hb
  go_wp2_with fail
  refine (rowner_v 4 true (by decide) _).mono ?_
  rintro r w0 ⟨rfl, rfl⟩
  go_wp2_with fail
  refine (name_any 4 _ (unhide TT)).mono ?_
  rintro r w5 ⟨rfl, hb⟩
  have K := below_step K K.size hb
  have TT := hide ((unhide TT).next hb)
  clear hb
  go_wp2_with fail
  refine (letter_any 4 _).mono ?_
  rintro r w0 ⟨rfl, rfl⟩
  go_wp2_with fail
  refine (wrote_4 _ (unhide TT)).mono ?_
  rintro r w6 ⟨rfl, hb⟩
  have K := below_step K K.size hb
  have TT := hide ((unhide TT).next hb)
  clear hb
  go_wp2_with fail
  refine (letter_4 _).mono ?_
  rintro r w0 ⟨rfl, rfl⟩
  go_wp2_with fail
  refine (rstore_v 4 true (by decide) _).mono ?_
  rintro r w0 ⟨rfl, rfl⟩
  go_wp2_with fail
  refine (awake_ok _ (unhide TT)).mono ?_
  rintro r w7 ⟨rfl, hb⟩
  have K := below_step K K.size hb
  have TT := hide ((unhide TT).next hb)
  clear hb
  go_wp2
  go_ret
  exact ⟨rfl, K⟩

set_option maxHeartbeats 2000000 in
theorem states_out (s : Int) (w : World) (T : Tab w) (h : isB s = false) : Calls Tryd.prog 3 #[.int .i64 s] w fun r w' => r = .returned (.bool true) ∧ Below w.heap.size w w' := by
  have K : Below w.heap.size w w := Below.refl _ _
  have TT := hide T
  clear T
  have hv := hide h
  have f1 := hide (show vaB s = false by have := out_of h; unfold vaB; simp; omega)
  have f2 := hide (show stB s = false by have := out_of h; unfold stB; simp; omega)
  have f3 := hide (show diB s = false by have := out_of h; unfold diB; simp; omega)
  have f4 := hide (show owB s = false by have := out_of h; unfold owB; simp; omega)
  clear h
  go_enter Tryd.func3, Tryd.ntmps3
  go_wp2_with fail
  refine (valid_v s false f1.out _).mono ?_
  rintro r w0 ⟨rfl, rfl⟩
  go_wp2_with fail
  refine (rload_v s false f1.out _).mono ?_
  rintro r w0 ⟨rfl, rfl⟩
  go_wp2_with fail
  refine (load_v s false f1.out _ (unhide TT)).mono ?_
  rintro r w1 ⟨rfl, hb⟩
  have K := below_step K K.size hb
  have TT := hide ((unhide TT).next hb)
  clear hb
  go_wp2_with fail
  refine (rload_v s false f1.out _).mono ?_
  rintro r w0 ⟨rfl, rfl⟩
  go_wp2_with fail
  refine (store_v s false f2.out _ (unhide TT)).mono ?_
  rintro r w2 ⟨rfl, hb⟩
  have K := below_step K K.size hb
  have TT := hide ((unhide TT).next hb)
  clear hb
  go_wp2_with fail
  refine (rstore_v s false f2.out _).mono ?_
  rintro r w0 ⟨rfl, rfl⟩
  go_wp2_with fail
  refine (dirty_v s false f3.out _ (unhide TT)).mono ?_
  rintro r w3 ⟨rfl, hb⟩
  have K := below_step K K.size hb
  have TT := hide ((unhide TT).next hb)
  clear hb
  go_wp2_with fail
  refine (rdirty_v s false f3.out _).mono ?_
  rintro r w0 ⟨rfl, rfl⟩
  go_wp2_with fail
  refine (owner_v s false f4.out _ (unhide TT)).mono ?_
  rintro r w4 ⟨rfl, hb⟩
  have K := below_step K K.size hb
  have TT := hide ((unhide TT).next hb)
  clear hb
  go_wp2_with fail
  refine (rowner_v s false f4.out _).mono ?_
  rintro r w0 ⟨rfl, rfl⟩
  go_wp2_with fail
  refine (name_any s _ (unhide TT)).mono ?_
  rintro r w5 ⟨rfl, hb⟩
  have K := below_step K K.size hb
  have TT := hide ((unhide TT).next hb)
  clear hb
  go_wp2_with fail
  refine (letter_any s _).mono ?_
  rintro r w0 ⟨rfl, rfl⟩
  go_wp2_with fail
  refine (wrote_out s hv.out _).mono ?_
  rintro r w0 ⟨rfl, rfl⟩
  go_wp2_with fail
  refine (letter_out s hv.out _).mono ?_
  rintro r w0 ⟨rfl, rfl⟩
  go_wp2_with fail
  refine (awake_ok _ (unhide TT)).mono ?_
  rintro r w6 ⟨rfl, hb⟩
  have K := below_step K K.size hb
  have TT := hide ((unhide TT).next hb)
  clear hb
  go_wp2
  go_ret
  exact ⟨rfl, K⟩

set_option maxHeartbeats 2000000 in
theorem probes_0_0  (w : World) (T : Tab w) : Calls Tryd.prog 4 #[.int .i64 0, .int .i64 0] w fun r w' => r = .returned (.bool true) ∧ Below w.heap.size w w' := by
  have K : Below w.heap.size w w := Below.refl _ _
  have TT := hide T
  clear T
  go_enter Tryd.func4, Tryd.ntmps4
  go_wp2_with fail
  refine (probe_0_0 _ (unhide TT)).mono ?_
  rintro r w1 ⟨rfl, hb⟩
  have K := below_step K K.size hb
  have TT := hide ((unhide TT).next hb)
  clear hb
  go_wp2_with fail
  refine (letter_0 _).mono ?_
  rintro r w0 ⟨rfl, rfl⟩
  go_wp2_with fail
  refine (probed_f 0 _).mono ?_
  rintro r w0 ⟨rfl, rfl⟩
  go_wp2_with fail
  refine (rowner_v 0 false (by decide) _).mono ?_
  rintro r w0 ⟨rfl, rfl⟩
  go_wp2_with fail
  refine (rdirty_v 0 false (by decide) _).mono ?_
  rintro r w0 ⟨rfl, rfl⟩
  go_wp2_with fail
  refine (awake_ok _ (unhide TT)).mono ?_
  rintro r w2 ⟨rfl, hb⟩
  have K := below_step K K.size hb
  have TT := hide ((unhide TT).next hb)
  clear hb
  go_wp2
  go_ret
  exact ⟨rfl, K⟩

set_option maxHeartbeats 2000000 in
theorem probes_0_1  (w : World) (T : Tab w) : Calls Tryd.prog 4 #[.int .i64 0, .int .i64 1] w fun r w' => r = .returned (.bool true) ∧ Below w.heap.size w w' := by
  have K : Below w.heap.size w w := Below.refl _ _
  have TT := hide T
  clear T
  go_enter Tryd.func4, Tryd.ntmps4
  go_wp2_with fail
  refine (probe_0_1 _ (unhide TT)).mono ?_
  rintro r w1 ⟨rfl, hb⟩
  have K := below_step K K.size hb
  have TT := hide ((unhide TT).next hb)
  clear hb
  go_wp2_with fail
  refine (letter_0 _).mono ?_
  rintro r w0 ⟨rfl, rfl⟩
  go_wp2_with fail
  refine (probed_t0 _).mono ?_
  rintro r w0 ⟨rfl, rfl⟩
  go_wp2_with fail
  refine (rowner_v 0 false (by decide) _).mono ?_
  rintro r w0 ⟨rfl, rfl⟩
  go_wp2_with fail
  refine (rdirty_v 0 false (by decide) _).mono ?_
  rintro r w0 ⟨rfl, rfl⟩
  go_wp2_with fail
  refine (awake_ok _ (unhide TT)).mono ?_
  rintro r w2 ⟨rfl, hb⟩
  have K := below_step K K.size hb
  have TT := hide ((unhide TT).next hb)
  clear hb
  go_wp2
  go_ret
  exact ⟨rfl, K⟩

set_option maxHeartbeats 2000000 in
theorem probes_0_x (to : Int) (w : World) (T : Tab w) (h0 : to ≠ 0) (h1 : to ≠ 1) : Calls Tryd.prog 4 #[.int .i64 0, .int .i64 to] w fun r w' => r = .returned (.bool true) ∧ Below w.heap.size w w' := by
  have K : Below w.heap.size w w := Below.refl _ _
  have TT := hide T
  clear T
  have e0 : (to != 0) = true := by simpa using h0
  have e1 : (to != 1) = true := by simpa using h1
  replace H0 := hide h0
  replace H1 := hide h1
  clear h0 h1
  go_enter Tryd.func4, Tryd.ntmps4
  go_wp2_with fail
  refine (probe_to 0 to (by decide) H0.out H1.out _).mono ?_
  rintro r w0 ⟨rfl, rfl⟩
  go_wp2_with fail
  refine (letter_0 _).mono ?_
  rintro r w0 ⟨rfl, rfl⟩
  go_wp2_with fail
  refine (awake_ok _ (unhide TT)).mono ?_
  rintro r w1 ⟨rfl, hb⟩
  have K := below_step K K.size hb
  have TT := hide ((unhide TT).next hb)
  clear hb
  go_wp2
  go_ret
  exact ⟨rfl, K⟩

set_option maxHeartbeats 2000000 in
theorem probes_1_0  (w : World) (T : Tab w) : Calls Tryd.prog 4 #[.int .i64 1, .int .i64 0] w fun r w' => r = .returned (.bool true) ∧ Below w.heap.size w w' := by
  have K : Below w.heap.size w w := Below.refl _ _
  have TT := hide T
  clear T
  go_enter Tryd.func4, Tryd.ntmps4
  go_wp2_with fail
  refine (probe_1_0 _ (unhide TT)).mono ?_
  rintro r w1 ⟨rfl, hb⟩
  have K := below_step K K.size hb
  have TT := hide ((unhide TT).next hb)
  clear hb
  go_wp2_with fail
  refine (letter_1 _).mono ?_
  rintro r w0 ⟨rfl, rfl⟩
  go_wp2_with fail
  refine (probed_f 1 _).mono ?_
  rintro r w0 ⟨rfl, rfl⟩
  go_wp2_with fail
  refine (rowner_v 1 false (by decide) _).mono ?_
  rintro r w0 ⟨rfl, rfl⟩
  go_wp2_with fail
  refine (rdirty_v 1 false (by decide) _).mono ?_
  rintro r w0 ⟨rfl, rfl⟩
  go_wp2_with fail
  refine (awake_ok _ (unhide TT)).mono ?_
  rintro r w2 ⟨rfl, hb⟩
  have K := below_step K K.size hb
  have TT := hide ((unhide TT).next hb)
  clear hb
  go_wp2
  go_ret
  exact ⟨rfl, K⟩

set_option maxHeartbeats 2000000 in
theorem probes_1_1  (w : World) (T : Tab w) : Calls Tryd.prog 4 #[.int .i64 1, .int .i64 1] w fun r w' => r = .returned (.bool true) ∧ Below w.heap.size w w' := by
  have K : Below w.heap.size w w := Below.refl _ _
  have TT := hide T
  clear T
  go_enter Tryd.func4, Tryd.ntmps4
  go_wp2_with fail
  refine (probe_1_1 _ (unhide TT)).mono ?_
  rintro r w1 ⟨rfl, hb⟩
  have K := below_step K K.size hb
  have TT := hide ((unhide TT).next hb)
  clear hb
  go_wp2_with fail
  refine (letter_1 _).mono ?_
  rintro r w0 ⟨rfl, rfl⟩
  go_wp2_with fail
  refine (probed_t1 _).mono ?_
  rintro r w0 ⟨rfl, rfl⟩
  go_wp2_with fail
  refine (rowner_v 1 false (by decide) _).mono ?_
  rintro r w0 ⟨rfl, rfl⟩
  go_wp2_with fail
  refine (rdirty_v 1 false (by decide) _).mono ?_
  rintro r w0 ⟨rfl, rfl⟩
  go_wp2_with fail
  refine (awake_ok _ (unhide TT)).mono ?_
  rintro r w2 ⟨rfl, hb⟩
  have K := below_step K K.size hb
  have TT := hide ((unhide TT).next hb)
  clear hb
  go_wp2
  go_ret
  exact ⟨rfl, K⟩

set_option maxHeartbeats 2000000 in
theorem probes_1_x (to : Int) (w : World) (T : Tab w) (h0 : to ≠ 0) (h1 : to ≠ 1) : Calls Tryd.prog 4 #[.int .i64 1, .int .i64 to] w fun r w' => r = .returned (.bool true) ∧ Below w.heap.size w w' := by
  have K : Below w.heap.size w w := Below.refl _ _
  have TT := hide T
  clear T
  have e0 : (to != 0) = true := by simpa using h0
  have e1 : (to != 1) = true := by simpa using h1
  replace H0 := hide h0
  replace H1 := hide h1
  clear h0 h1
  go_enter Tryd.func4, Tryd.ntmps4
  go_wp2_with fail
  refine (probe_to 1 to (by decide) H0.out H1.out _).mono ?_
  rintro r w0 ⟨rfl, rfl⟩
  go_wp2_with fail
  refine (letter_1 _).mono ?_
  rintro r w0 ⟨rfl, rfl⟩
  go_wp2_with fail
  refine (awake_ok _ (unhide TT)).mono ?_
  rintro r w1 ⟨rfl, hb⟩
  have K := below_step K K.size hb
  have TT := hide ((unhide TT).next hb)
  clear hb
  go_wp2
  go_ret
  exact ⟨rfl, K⟩

set_option maxHeartbeats 2000000 in
theorem probes_2_0  (w : World) (T : Tab w) : Calls Tryd.prog 4 #[.int .i64 2, .int .i64 0] w fun r w' => r = .returned (.bool true) ∧ Below w.heap.size w w' := by
  have K : Below w.heap.size w w := Below.refl _ _
  have TT := hide T
  clear T
  go_enter Tryd.func4, Tryd.ntmps4
  go_wp2_with fail
  refine (probe_2_0 _ (unhide TT)).mono ?_
  rintro r w1 ⟨rfl, hb⟩
  have K := below_step K K.size hb
  have TT := hide ((unhide TT).next hb)
  clear hb
  go_wp2_with fail
  refine (letter_2 _).mono ?_
  rintro r w0 ⟨rfl, rfl⟩
  go_wp2_with fail
  refine (probed_f 2 _).mono ?_
  rintro r w0 ⟨rfl, rfl⟩
  go_wp2_with fail
  refine (rowner_v 2 true (by decide) _).mono ?_
  rintro r w0 ⟨rfl, rfl⟩
  go_wp2_with fail
  refine (rdirty_v 2 false (by decide) _).mono ?_
  rintro r w0 ⟨rfl, rfl⟩
  go_wp2_with fail
  refine (awake_ok _ (unhide TT)).mono ?_
  rintro r w2 ⟨rfl, hb⟩
  have K := below_step K K.size hb
  have TT := hide ((unhide TT).next hb)
  clear hb
  go_wp2
  go_ret
  exact ⟨rfl, K⟩

set_option maxHeartbeats 2000000 in
theorem probes_2_1  (w : World) (T : Tab w) : Calls Tryd.prog 4 #[.int .i64 2, .int .i64 1] w fun r w' => r = .returned (.bool true) ∧ Below w.heap.size w w' := by
  have K : Below w.heap.size w w := Below.refl _ _
  have TT := hide T
  clear T
  go_enter Tryd.func4, Tryd.ntmps4
  go_wp2_with fail
  refine (probe_2_1 _ (unhide TT)).mono ?_
  rintro r w1 ⟨rfl, hb⟩
  have K := below_step K K.size hb
  have TT := hide ((unhide TT).next hb)
  clear hb
  go_wp2_with fail
  refine (letter_2 _).mono ?_
  rintro r w0 ⟨rfl, rfl⟩
  go_wp2_with fail
  refine (probed_t2 _).mono ?_
  rintro r w0 ⟨rfl, rfl⟩
  go_wp2_with fail
  refine (rowner_v 2 true (by decide) _).mono ?_
  rintro r w0 ⟨rfl, rfl⟩
  go_wp2_with fail
  refine (rdirty_v 2 false (by decide) _).mono ?_
  rintro r w0 ⟨rfl, rfl⟩
  go_wp2_with fail
  refine (awake_ok _ (unhide TT)).mono ?_
  rintro r w2 ⟨rfl, hb⟩
  have K := below_step K K.size hb
  have TT := hide ((unhide TT).next hb)
  clear hb
  go_wp2
  go_ret
  exact ⟨rfl, K⟩

set_option maxHeartbeats 2000000 in
theorem probes_2_x (to : Int) (w : World) (T : Tab w) (h0 : to ≠ 0) (h1 : to ≠ 1) : Calls Tryd.prog 4 #[.int .i64 2, .int .i64 to] w fun r w' => r = .returned (.bool true) ∧ Below w.heap.size w w' := by
  have K : Below w.heap.size w w := Below.refl _ _
  have TT := hide T
  clear T
  have e0 : (to != 0) = true := by simpa using h0
  have e1 : (to != 1) = true := by simpa using h1
  replace H0 := hide h0
  replace H1 := hide h1
  clear h0 h1
  go_enter Tryd.func4, Tryd.ntmps4
  go_wp2_with fail
  refine (probe_to 2 to (by decide) H0.out H1.out _).mono ?_
  rintro r w0 ⟨rfl, rfl⟩
  go_wp2_with fail
  refine (letter_2 _).mono ?_
  rintro r w0 ⟨rfl, rfl⟩
  go_wp2_with fail
  refine (awake_ok _ (unhide TT)).mono ?_
  rintro r w1 ⟨rfl, hb⟩
  have K := below_step K K.size hb
  have TT := hide ((unhide TT).next hb)
  clear hb
  go_wp2
  go_ret
  exact ⟨rfl, K⟩

set_option maxHeartbeats 2000000 in
theorem probes_3_0  (w : World) (T : Tab w) : Calls Tryd.prog 4 #[.int .i64 3, .int .i64 0] w fun r w' => r = .returned (.bool true) ∧ Below w.heap.size w w' := by
  have K : Below w.heap.size w w := Below.refl _ _
  have TT := hide T
  clear T
  go_enter Tryd.func4, Tryd.ntmps4
  go_wp2_with fail
  refine (probe_3_0 _ (unhide TT)).mono ?_
  rintro r w1 ⟨rfl, hb⟩
  have K := below_step K K.size hb
  have TT := hide ((unhide TT).next hb)
  clear hb
  go_wp2_with fail
  refine (letter_3 _).mono ?_
  rintro r w0 ⟨rfl, rfl⟩
  go_wp2_with fail
  refine (probed_f 3 _).mono ?_
  rintro r w0 ⟨rfl, rfl⟩
  go_wp2_with fail
  refine (rowner_v 3 true (by decide) _).mono ?_
  rintro r w0 ⟨rfl, rfl⟩
  go_wp2_with fail
  refine (rdirty_v 3 true (by decide) _).mono ?_
  rintro r w0 ⟨rfl, rfl⟩
  go_wp2_with fail
  refine (awake_ok _ (unhide TT)).mono ?_
  rintro r w2 ⟨rfl, hb⟩
  have K := below_step K K.size hb
  have TT := hide ((unhide TT).next hb)
  clear hb
  go_wp2
  go_ret
  exact ⟨rfl, K⟩

set_option maxHeartbeats 2000000 in
theorem probes_3_1  (w : World) (T : Tab w) : Calls Tryd.prog 4 #[.int .i64 3, .int .i64 1] w fun r w' => r = .returned (.bool true) ∧ Below w.heap.size w w' := by
  have K : Below w.heap.size w w := Below.refl _ _
  have TT := hide T
  clear T
  go_enter Tryd.func4, Tryd.ntmps4
  go_wp2_with fail
  refine (probe_3_1 _ (unhide TT)).mono ?_
  rintro r w1 ⟨rfl, hb⟩
  have K := below_step K K.size hb
  have TT := hide ((unhide TT).next hb)
  clear hb
  go_wp2_with fail
  refine (letter_3 _).mono ?_
  rintro r w0 ⟨rfl, rfl⟩
  go_wp2_with fail
  refine (probed_t3 _).mono ?_
  rintro r w0 ⟨rfl, rfl⟩
  go_wp2_with fail
  refine (rowner_v 3 true (by decide) _).mono ?_
  rintro r w0 ⟨rfl, rfl⟩
  go_wp2_with fail
  refine (rdirty_v 3 true (by decide) _).mono ?_
  rintro r w0 ⟨rfl, rfl⟩
  go_wp2_with fail
  refine (awake_ok _ (unhide TT)).mono ?_
  rintro r w2 ⟨rfl, hb⟩
  have K := below_step K K.size hb
  have TT := hide ((unhide TT).next hb)
  clear hb
  go_wp2
  go_ret
  exact ⟨rfl, K⟩

set_option maxHeartbeats 2000000 in
theorem probes_3_x (to : Int) (w : World) (T : Tab w) (h0 : to ≠ 0) (h1 : to ≠ 1) : Calls Tryd.prog 4 #[.int .i64 3, .int .i64 to] w fun r w' => r = .returned (.bool true) ∧ Below w.heap.size w w' := by
  have K : Below w.heap.size w w := Below.refl _ _
  have TT := hide T
  clear T
  have e0 : (to != 0) = true := by simpa using h0
  have e1 : (to != 1) = true := by simpa using h1
  replace H0 := hide h0
  replace H1 := hide h1
  clear h0 h1
  go_enter Tryd.func4, Tryd.ntmps4
  go_wp2_with fail
  refine (probe_to 3 to (by decide) H0.out H1.out _).mono ?_
  rintro r w0 ⟨rfl, rfl⟩
  go_wp2_with fail
  refine (letter_3 _).mono ?_
  rintro r w0 ⟨rfl, rfl⟩
  go_wp2_with fail
  refine (awake_ok _ (unhide TT)).mono ?_
  rintro r w1 ⟨rfl, hb⟩
  have K := below_step K K.size hb
  have TT := hide ((unhide TT).next hb)
  clear hb
  go_wp2
  go_ret
  exact ⟨rfl, K⟩

set_option maxHeartbeats 2000000 in
theorem probes_4_0  (w : World) (T : Tab w) : Calls Tryd.prog 4 #[.int .i64 4, .int .i64 0] w fun r w' => r = .returned (.bool true) ∧ Below w.heap.size w w' := by
  have K : Below w.heap.size w w := Below.refl _ _
  have TT := hide T
  clear T
  go_enter Tryd.func4, Tryd.ntmps4
  go_wp2_with fail
  refine (probe_4_0 _ (unhide TT)).mono ?_
  rintro r w1 ⟨rfl, hb⟩
  have K := below_step K K.size hb
  have TT := hide ((unhide TT).next hb)
  clear hb
  go_wp2_with fail
  refine (letter_4 _).mono ?_
  rintro r w0 ⟨rfl, rfl⟩
  go_wp2_with fail
  refine (probed_f 4 _).mono ?_
  rintro r w0 ⟨rfl, rfl⟩
  go_wp2_with fail
  refine (rowner_v 4 true (by decide) _).mono ?_
  rintro r w0 ⟨rfl, rfl⟩
  go_wp2_with fail
  refine (rdirty_v 4 true (by decide) _).mono ?_
  rintro r w0 ⟨rfl, rfl⟩
  go_wp2_with fail
  refine (awake_ok _ (unhide TT)).mono ?_
  rintro r w2 ⟨rfl, hb⟩
  have K := below_step K K.size hb
  have TT := hide ((unhide TT).next hb)
  clear hb
  go_wp2
  go_ret
  exact ⟨rfl, K⟩

set_option maxHeartbeats 2000000 in
theorem probes_4_1  (w : World) (T : Tab w) : Calls Tryd.prog 4 #[.int .i64 4, .int .i64 1] w fun r w' => r = .returned (.bool true) ∧ Below w.heap.size w w' := by
  have K : Below w.heap.size w w := Below.refl _ _
  have TT := hide T
  clear T
  go_enter Tryd.func4, Tryd.ntmps4
  go_wp2_with fail
  refine (probe_4_1 _ (unhide TT)).mono ?_
  rintro r w1 ⟨rfl, hb⟩
  have K := below_step K K.size hb
  have TT := hide ((unhide TT).next hb)
  clear hb
  go_wp2_with fail
  refine (letter_4 _).mono ?_
  rintro r w0 ⟨rfl, rfl⟩
  go_wp2_with fail
  refine (probed_t4 _).mono ?_
  rintro r w0 ⟨rfl, rfl⟩
  go_wp2_with fail
  refine (rowner_v 4 true (by decide) _).mono ?_
  rintro r w0 ⟨rfl, rfl⟩
  go_wp2_with fail
  refine (rdirty_v 4 true (by decide) _).mono ?_
  rintro r w0 ⟨rfl, rfl⟩
  go_wp2_with fail
  refine (awake_ok _ (unhide TT)).mono ?_
  rintro r w2 ⟨rfl, hb⟩
  have K := below_step K K.size hb
  have TT := hide ((unhide TT).next hb)
  clear hb
  go_wp2
  go_ret
  exact ⟨rfl, K⟩

set_option maxHeartbeats 2000000 in
theorem probes_4_x (to : Int) (w : World) (T : Tab w) (h0 : to ≠ 0) (h1 : to ≠ 1) : Calls Tryd.prog 4 #[.int .i64 4, .int .i64 to] w fun r w' => r = .returned (.bool true) ∧ Below w.heap.size w w' := by
  have K : Below w.heap.size w w := Below.refl _ _
  have TT := hide T
  clear T
  have e0 : (to != 0) = true := by simpa using h0
  have e1 : (to != 1) = true := by simpa using h1
  replace H0 := hide h0
  replace H1 := hide h1
  clear h0 h1
  go_enter Tryd.func4, Tryd.ntmps4
  go_wp2_with fail
  refine (probe_to 4 to (by decide) H0.out H1.out _).mono ?_
  rintro r w0 ⟨rfl, rfl⟩
  go_wp2_with fail
  refine (letter_4 _).mono ?_
  rintro r w0 ⟨rfl, rfl⟩
  go_wp2_with fail
  refine (awake_ok _ (unhide TT)).mono ?_
  rintro r w1 ⟨rfl, hb⟩
  have K := below_step K K.size hb
  have TT := hide ((unhide TT).next hb)
  clear hb
  go_wp2
  go_ret
  exact ⟨rfl, K⟩

set_option maxHeartbeats 2000000 in
theorem probes_out (s to : Int) (w : World) (T : Tab w) (h : isB s = false) : Calls Tryd.prog 4 #[.int .i64 s, .int .i64 to] w fun r w' => r = .returned (.bool true) ∧ Below w.heap.size w w' := by
  have K : Below w.heap.size w w := Below.refl _ _
  have TT := hide T
  clear T
  have hv := hide h
  clear h
  go_enter Tryd.func4, Tryd.ntmps4
  go_wp2_with fail
  refine (probe_bad s to hv.out _).mono ?_
  rintro r w0 ⟨rfl, rfl⟩
  go_wp2_with fail
  refine (letter_out s hv.out _).mono ?_
  rintro r w0 ⟨rfl, rfl⟩
  go_wp2_with fail
  refine (awake_ok _ (unhide TT)).mono ?_
  rintro r w1 ⟨rfl, hb⟩
  have K := below_step K K.size hb
  have TT := hide ((unhide TT).next hb)
  clear hb
  go_wp2
  go_ret
  exact ⟨rfl, K⟩

set_option maxHeartbeats 2000000 in
theorem twice_0  (w : World) (T : Tab w) : Calls Tryd.prog 9 #[.int .i64 0] w fun r w' => r = .returned (.bool true) ∧ Below w.heap.size w w' := by
  have K : Below w.heap.size w w := Below.refl _ _
  have TT := hide T
  clear T
  go_enter Tryd.func9, Tryd.ntmps9
  go_wp2_with fail
  refine (probe_0_1 _ (unhide TT)).mono ?_
  rintro r w1 ⟨rfl, hb⟩
  have K := below_step K K.size hb
  have TT := hide ((unhide TT).next hb)
  clear hb
  go_wp2_with fail
  refine (probe_0_1 _ (unhide TT)).mono ?_
  rintro r w2 ⟨rfl, hb⟩
  have K := below_step K K.size hb
  have TT := hide ((unhide TT).next hb)
  clear hb
  go_wp2_with fail
  refine (probe_0_0 _ (unhide TT)).mono ?_
  rintro r w3 ⟨rfl, hb⟩
  have K := below_step K K.size hb
  have TT := hide ((unhide TT).next hb)
  clear hb
  go_wp2_with fail
  refine (probe_0_0 _ (unhide TT)).mono ?_
  rintro r w4 ⟨rfl, hb⟩
  have K := below_step K K.size hb
  have TT := hide ((unhide TT).next hb)
  clear hb
  go_wp2_with fail
  refine (store_v 0 false (by decide) _ (unhide TT)).mono ?_
  rintro r w5 ⟨rfl, hb⟩
  have K := below_step K K.size hb
  have TT := hide ((unhide TT).next hb)
  clear hb
  go_wp2_with fail
  refine (awake_ok _ (unhide TT)).mono ?_
  rintro r w6 ⟨rfl, hb⟩
  have K := below_step K K.size hb
  have TT := hide ((unhide TT).next hb)
  clear hb
  go_wp2
  go_ret
  exact ⟨rfl, K⟩

set_option maxHeartbeats 2000000 in
theorem twice_1  (w : World) (T : Tab w) : Calls Tryd.prog 9 #[.int .i64 1] w fun r w' => r = .returned (.bool true) ∧ Below w.heap.size w w' := by
  have K : Below w.heap.size w w := Below.refl _ _
  have TT := hide T
  clear T
  go_enter Tryd.func9, Tryd.ntmps9
  go_wp2_with fail
  refine (probe_1_1 _ (unhide TT)).mono ?_
  rintro r w1 ⟨rfl, hb⟩
  have K := below_step K K.size hb
  have TT := hide ((unhide TT).next hb)
  clear hb
  go_wp2_with fail
  refine (probe_1_1 _ (unhide TT)).mono ?_
  rintro r w2 ⟨rfl, hb⟩
  have K := below_step K K.size hb
  have TT := hide ((unhide TT).next hb)
  clear hb
  go_wp2_with fail
  refine (probe_1_0 _ (unhide TT)).mono ?_
  rintro r w3 ⟨rfl, hb⟩
  have K := below_step K K.size hb
  have TT := hide ((unhide TT).next hb)
  clear hb
  go_wp2_with fail
  refine (probe_1_0 _ (unhide TT)).mono ?_
  rintro r w4 ⟨rfl, hb⟩
  have K := below_step K K.size hb
  have TT := hide ((unhide TT).next hb)
  clear hb
  go_wp2_with fail
  refine (store_v 1 false (by decide) _ (unhide TT)).mono ?_
  rintro r w5 ⟨rfl, hb⟩
  have K := below_step K K.size hb
  have TT := hide ((unhide TT).next hb)
  clear hb
  go_wp2_with fail
  refine (awake_ok _ (unhide TT)).mono ?_
  rintro r w6 ⟨rfl, hb⟩
  have K := below_step K K.size hb
  have TT := hide ((unhide TT).next hb)
  clear hb
  go_wp2
  go_ret
  exact ⟨rfl, K⟩

set_option maxHeartbeats 2000000 in
theorem twice_2  (w : World) (T : Tab w) : Calls Tryd.prog 9 #[.int .i64 2] w fun r w' => r = .returned (.bool true) ∧ Below w.heap.size w w' := by
  have K : Below w.heap.size w w := Below.refl _ _
  have TT := hide T
  clear T
  go_enter Tryd.func9, Tryd.ntmps9
  go_wp2_with fail
  refine (probe_2_1 _ (unhide TT)).mono ?_
  rintro r w1 ⟨rfl, hb⟩
  have K := below_step K K.size hb
  have TT := hide ((unhide TT).next hb)
  clear hb
  go_wp2_with fail
  refine (probe_1_1 _ (unhide TT)).mono ?_
  rintro r w2 ⟨rfl, hb⟩
  have K := below_step K K.size hb
  have TT := hide ((unhide TT).next hb)
  clear hb
  go_wp2_with fail
  refine (probe_1_0 _ (unhide TT)).mono ?_
  rintro r w3 ⟨rfl, hb⟩
  have K := below_step K K.size hb
  have TT := hide ((unhide TT).next hb)
  clear hb
  go_wp2_with fail
  refine (probe_2_0 _ (unhide TT)).mono ?_
  rintro r w4 ⟨rfl, hb⟩
  have K := below_step K K.size hb
  have TT := hide ((unhide TT).next hb)
  clear hb
  go_wp2_with fail
  refine (load_v 2 true (by decide) _ (unhide TT)).mono ?_
  rintro r w5 ⟨rfl, hb⟩
  have K := below_step K K.size hb
  have TT := hide ((unhide TT).next hb)
  clear hb
  go_wp2_with fail
  refine (store_v 2 true (by decide) _ (unhide TT)).mono ?_
  rintro r w6 ⟨rfl, hb⟩
  have K := below_step K K.size hb
  have TT := hide ((unhide TT).next hb)
  clear hb
  go_wp2_with fail
  refine (owner_v 2 true (by decide) _ (unhide TT)).mono ?_
  rintro r w7 ⟨rfl, hb⟩
  have K := below_step K K.size hb
  have TT := hide ((unhide TT).next hb)
  clear hb
  go_wp2_with fail
  refine (awake_ok _ (unhide TT)).mono ?_
  rintro r w8 ⟨rfl, hb⟩
  have K := below_step K K.size hb
  have TT := hide ((unhide TT).next hb)
  clear hb
  go_wp2
  go_ret
  exact ⟨rfl, K⟩

set_option maxHeartbeats 2000000 in
theorem twice_3  (w : World) (T : Tab w) : Calls Tryd.prog 9 #[.int .i64 3] w fun r w' => r = .returned (.bool true) ∧ Below w.heap.size w w' := by
  have K : Below w.heap.size w w := Below.refl _ _
  have TT := hide T
  clear T
  go_enter Tryd.func9, Tryd.ntmps9
  go_wp2_with fail
  refine (probe_3_1 _ (unhide TT)).mono ?_
  rintro r w1 ⟨rfl, hb⟩
  have K := below_step K K.size hb
  have TT := hide ((unhide TT).next hb)
  clear hb
  go_wp2_with fail
  refine (probe_3_1 _ (unhide TT)).mono ?_
  rintro r w2 ⟨rfl, hb⟩
  have K := below_step K K.size hb
  have TT := hide ((unhide TT).next hb)
  clear hb
  go_wp2_with fail
  refine (probe_3_0 _ (unhide TT)).mono ?_
  rintro r w3 ⟨rfl, hb⟩
  have K := below_step K K.size hb
  have TT := hide ((unhide TT).next hb)
  clear hb
  go_wp2_with fail
  refine (probe_3_0 _ (unhide TT)).mono ?_
  rintro r w4 ⟨rfl, hb⟩
  have K := below_step K K.size hb
  have TT := hide ((unhide TT).next hb)
  clear hb
  go_wp2_with fail
  refine (load_v 3 true (by decide) _ (unhide TT)).mono ?_
  rintro r w5 ⟨rfl, hb⟩
  have K := below_step K K.size hb
  have TT := hide ((unhide TT).next hb)
  clear hb
  go_wp2_with fail
  refine (store_v 3 false (by decide) _ (unhide TT)).mono ?_
  rintro r w6 ⟨rfl, hb⟩
  have K := below_step K K.size hb
  have TT := hide ((unhide TT).next hb)
  clear hb
  go_wp2_with fail
  refine (awake_ok _ (unhide TT)).mono ?_
  rintro r w7 ⟨rfl, hb⟩
  have K := below_step K K.size hb
  have TT := hide ((unhide TT).next hb)
  clear hb
  go_wp2
  go_ret
  exact ⟨rfl, K⟩

set_option maxHeartbeats 2000000 in
theorem twice_4  (w : World) (T : Tab w) : Calls Tryd.prog 9 #[.int .i64 4] w fun r w' => r = .returned (.bool true) ∧ Below w.heap.size w w' := by
  have K : Below w.heap.size w w := Below.refl _ _
  have TT := hide T
  clear T
  go_enter Tryd.func9, Tryd.ntmps9
  go_wp2_with fail
  refine (probe_4_1 _ (unhide TT)).mono ?_
  rintro r w1 ⟨rfl, hb⟩
  have K := below_step K K.size hb
  have TT := hide ((unhide TT).next hb)
  clear hb
  go_wp2_with fail
  refine (probe_3_1 _ (unhide TT)).mono ?_
  rintro r w2 ⟨rfl, hb⟩
  have K := below_step K K.size hb
  have TT := hide ((unhide TT).next hb)
  clear hb
  go_wp2_with fail
  refine (probe_3_0 _ (unhide TT)).mono ?_
  rintro r w3 ⟨rfl, hb⟩
  have K := below_step K K.size hb
  have TT := hide ((unhide TT).next hb)
  clear hb
  go_wp2_with fail
  refine (probe_4_0 _ (unhide TT)).mono ?_
  rintro r w4 ⟨rfl, hb⟩
  have K := below_step K K.size hb
  have TT := hide ((unhide TT).next hb)
  clear hb
  go_wp2_with fail
  refine (load_v 4 true (by decide) _ (unhide TT)).mono ?_
  rintro r w5 ⟨rfl, hb⟩
  have K := below_step K K.size hb
  have TT := hide ((unhide TT).next hb)
  clear hb
  go_wp2_with fail
  refine (store_v 4 true (by decide) _ (unhide TT)).mono ?_
  rintro r w6 ⟨rfl, hb⟩
  have K := below_step K K.size hb
  have TT := hide ((unhide TT).next hb)
  clear hb
  go_wp2_with fail
  refine (owner_v 4 true (by decide) _ (unhide TT)).mono ?_
  rintro r w7 ⟨rfl, hb⟩
  have K := below_step K K.size hb
  have TT := hide ((unhide TT).next hb)
  clear hb
  go_wp2_with fail
  refine (awake_ok _ (unhide TT)).mono ?_
  rintro r w8 ⟨rfl, hb⟩
  have K := below_step K K.size hb
  have TT := hide ((unhide TT).next hb)
  clear hb
  go_wp2
  go_ret
  exact ⟨rfl, K⟩

set_option maxHeartbeats 2000000 in
theorem twice_out (s : Int) (w : World) (T : Tab w) (h : isB s = false) : Calls Tryd.prog 9 #[.int .i64 s] w fun r w' => r = .returned (.bool true) ∧ Below w.heap.size w w' := by
  have K : Below w.heap.size w w := Below.refl _ _
  have TT := hide T
  clear T
  have hv := hide h
  have f1 := hide (show vaB s = false by have := out_of h; unfold vaB; simp; omega)
  have f2 := hide (show stB s = false by have := out_of h; unfold stB; simp; omega)
  have f3 := hide (show diB s = false by have := out_of h; unfold diB; simp; omega)
  have f4 := hide (show owB s = false by have := out_of h; unfold owB; simp; omega)
  clear h
  go_enter Tryd.func9, Tryd.ntmps9
  go_wp2_with fail
  refine (probe_bad s 1 hv.out _).mono ?_
  rintro r w0 ⟨rfl, rfl⟩
  go_wp2_with fail
  refine (valid_v s false f1.out _).mono ?_
  rintro r w0 ⟨rfl, rfl⟩
  go_wp2_with fail
  refine (dirty_v s false f3.out _ (unhide TT)).mono ?_
  rintro r w1 ⟨rfl, hb⟩
  have K := below_step K K.size hb
  have TT := hide ((unhide TT).next hb)
  clear hb
  go_wp2_with fail
  refine (owner_v s false f4.out _ (unhide TT)).mono ?_
  rintro r w2 ⟨rfl, hb⟩
  have K := below_step K K.size hb
  have TT := hide ((unhide TT).next hb)
  clear hb
  go_wp2_with fail
  refine (awake_ok _ (unhide TT)).mono ?_
  rintro r w3 ⟨rfl, hb⟩
  have K := below_step K K.size hb
  have TT := hide ((unhide TT).next hb)
  clear hb
  go_wp2
  go_ret
  exact ⟨rfl, K⟩

theorem states_law (s : Int) (w : World) (T : Tab w) : Calls Tryd.prog 3 #[.int .i64 s] w fun r w' => r = .returned (.bool true) ∧ Below w.heap.size w w' := by
  by_cases h : 0 ≤ s ∧ s ≤ 4
  · rcases five h with rfl | rfl | rfl | rfl | rfl
    · exact states_0 w T
    · exact states_1 w T
    · exact states_2 w T
    · exact states_3 w T
    · exact states_4 w T
  · exact states_out s w T (by unfold isB; simpa using h)
theorem twice_law (s : Int) (w : World) (T : Tab w) : Calls Tryd.prog 9 #[.int .i64 s] w fun r w' => r = .returned (.bool true) ∧ Below w.heap.size w w' := by
  by_cases h : 0 ≤ s ∧ s ≤ 4
  · rcases five h with rfl | rfl | rfl | rfl | rfl
    · exact twice_0 w T
    · exact twice_1 w T
    · exact twice_2 w T
    · exact twice_3 w T
    · exact twice_4 w T
  · exact twice_out s w T (by unfold isB; simpa using h)
theorem probes_law (s to : Int) (w : World) (T : Tab w) : Calls Tryd.prog 4 #[.int .i64 s, .int .i64 to] w fun r w' => r = .returned (.bool true) ∧ Below w.heap.size w w' := by
  by_cases h : 0 ≤ s ∧ s ≤ 4
  · by_cases h0 : to = 0
    · subst h0
      rcases five h with rfl | rfl | rfl | rfl | rfl
      · exact probes_0_0 w T
      · exact probes_1_0 w T
      · exact probes_2_0 w T
      · exact probes_3_0 w T
      · exact probes_4_0 w T
    · by_cases h1 : to = 1
      · subst h1
        rcases five h with rfl | rfl | rfl | rfl | rfl
        · exact probes_0_1 w T
        · exact probes_1_1 w T
        · exact probes_2_1 w T
        · exact probes_3_1 w T
        · exact probes_4_1 w T
      · rcases five h with rfl | rfl | rfl | rfl | rfl
        · exact probes_0_x to w T h0 h1
        · exact probes_1_x to w T h0 h1
        · exact probes_2_x to w T h0 h1
        · exact probes_3_x to w T h0 h1
        · exact probes_4_x to w T h0 h1
  · exact probes_out s to w T (by unfold isB; simpa using h)
end Go.Proofs.YtijhndmmljicmaaDoor
