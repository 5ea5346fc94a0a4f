/- The reference's Fit, walked. -/
import Derived.Test.YtijhndmmljicmaaDoorPL
import Derived.WalkKit
import Derived.WalkSpells
import Derived.ProofKit
import Derived.Outline
import Derived.Handy
import Derived.RowKit3
import Derived.BigQuiet
import Derived.Deep.QuietTactic
import Derived.Deep.RegionHeld3
import Derived.IntWalk
import Derived.LoopTactic
import Derived.OwnWalk
namespace Go.Proofs.YtijhndmmljicmaaDoor
open Go.RowKit
set_option linter.unusedVariables false
set_option maxRecDepth 100000

theorem vio_of {x y u v : Int} (h1 : x = u) (h2 : y = v) : vioB x y = vioB u v := by rw [h1, h2]
set_option maxHeartbeats 8000000 in
theorem rfit_row (n : Nat) (hn : n ≤ 1000) (f : Nat → Int) (bb off c : Nat) (w : World) (hb : bb < w.heap.size) (hc : ∀ j, j < n → w.cell? ⟨bb, off + j, none⟩ = some (.int .i64 (f j))) :
    Calls Tryd.prog 27 #[.slice (some ⟨bb, off, none⟩) n c] w fun r w' => r = .returned (.bool (fitB f n)) ∧ w = w' := by
  replace hc := hide hc
  go_enter Tryd.func27, Tryd.ntmps27
  go_wp2
  go_loop [3] (fun v3 => ∃ i : Nat, i ≤ n ∧ v3 = .int .i64 i ∧ fitB f i = true) (fun v3 => n - (intOf v3).toNat)
  case atStart => exact ⟨0, Nat.zero_le _, rfl, rfl⟩
  case round =>
    obtain ⟨i, hi, rfl, hF⟩ := hrel
    replace hF := hide hF
    by_cases hlt : i < n
    · have hx : w.cell? ⟨bb, off + i, none⟩ = some (.int .i64 (f i)) := hc.out i hlt
      by_cases h5 : 0 ≤ f i ∧ f i ≤ 4
      · rcases five h5 with hv | hv | hv | hv | hv
        · rw [hv] at hx
          replace hv := hide hv
          clear h5
          go_wp2_with fail
          refine (letter_0 _).mono ?_
          rintro r w1 ⟨rfl, rfl⟩
          go_wp2
          go_loop [4] (fun v4 => ∃ k : Nat, k ≤ i ∧ v4 = .int .i64 k ∧ ∀ j, j < k → vioB (f i) (f j) = false) (fun v4 => i - (intOf v4).toNat)
          case atStart => exact ⟨0, Nat.zero_le _, rfl, fun j hj => absurd hj (by omega)⟩
          case round =>
            obtain ⟨k, hk, rfl, hG⟩ := hrel
            replace hG := hide hG
            by_cases hlt2 : k < i
            · have hy : w.cell? ⟨bb, off + k, none⟩ = some (.int .i64 (f k)) := hc.out k (by omega)
              rcases val_of (all_at ((fit_iff f i).1 hF.out).1 hlt2) with hu | hu | hu | hu | hu
              · rw [hu] at hy
                replace hu := hide hu
                go_wp2_with fail
                refine (rowner_v 0 false (by decide) _).mono ?_
                rintro r w1 ⟨rfl, rfl⟩
                go_wp2_with fail
                refine (rstore_v 0 false (by decide) _).mono ?_
                rintro r w1 ⟨rfl, rfl⟩
                go_wp2_with fail
                refine (rstore_v 0 false (by decide) _).mono ?_
                rintro r w1 ⟨rfl, rfl⟩
                go_wp2
                go_round
                case rel => exact ⟨k + 1, by omega, int_eq (by omega), fun j hj => by
                  by_cases e : j = k
                  · rw [e]; exact (vio_of hv.out hu.out).trans (by decide)
                  · exact hG.out j (by omega)⟩
                case measure => simp [intOf]; omega
              · rw [hu] at hy
                replace hu := hide hu
                go_wp2_with fail
                refine (rowner_v 0 false (by decide) _).mono ?_
                rintro r w1 ⟨rfl, rfl⟩
                go_wp2_with fail
                refine (rstore_v 0 false (by decide) _).mono ?_
                rintro r w1 ⟨rfl, rfl⟩
                go_wp2_with fail
                refine (rstore_v 1 false (by decide) _).mono ?_
                rintro r w1 ⟨rfl, rfl⟩
                go_wp2
                go_round
                case rel => exact ⟨k + 1, by omega, int_eq (by omega), fun j hj => by
                  by_cases e : j = k
                  · rw [e]; exact (vio_of hv.out hu.out).trans (by decide)
                  · exact hG.out j (by omega)⟩
                case measure => simp [intOf]; omega
              · rw [hu] at hy
                replace hu := hide hu
                go_wp2_with fail
                refine (rowner_v 0 false (by decide) _).mono ?_
                rintro r w1 ⟨rfl, rfl⟩
                go_wp2_with fail
                refine (rstore_v 0 false (by decide) _).mono ?_
                rintro r w1 ⟨rfl, rfl⟩
                go_wp2_with fail
                refine (rstore_v 2 true (by decide) _).mono ?_
                rintro r w1 ⟨rfl, rfl⟩
                go_wp2
                go_round
                case rel => exact ⟨k + 1, by omega, int_eq (by omega), fun j hj => by
                  by_cases e : j = k
                  · rw [e]; exact (vio_of hv.out hu.out).trans (by decide)
                  · exact hG.out j (by omega)⟩
                case measure => simp [intOf]; omega
              · rw [hu] at hy
                replace hu := hide hu
                go_wp2_with fail
                refine (rowner_v 0 false (by decide) _).mono ?_
                rintro r w1 ⟨rfl, rfl⟩
                go_wp2_with fail
                refine (rstore_v 0 false (by decide) _).mono ?_
                rintro r w1 ⟨rfl, rfl⟩
                go_wp2_with fail
                refine (rstore_v 3 false (by decide) _).mono ?_
                rintro r w1 ⟨rfl, rfl⟩
                go_wp2
                go_round
                case rel => exact ⟨k + 1, by omega, int_eq (by omega), fun j hj => by
                  by_cases e : j = k
                  · rw [e]; exact (vio_of hv.out hu.out).trans (by decide)
                  · exact hG.out j (by omega)⟩
                case measure => simp [intOf]; omega
              · rw [hu] at hy
                replace hu := hide hu
                go_wp2_with fail
                refine (rowner_v 0 false (by decide) _).mono ?_
                rintro r w1 ⟨rfl, rfl⟩
                go_wp2_with fail
                refine (rstore_v 0 false (by decide) _).mono ?_
                rintro r w1 ⟨rfl, rfl⟩
                go_wp2_with fail
                refine (rstore_v 4 true (by decide) _).mono ?_
                rintro r w1 ⟨rfl, rfl⟩
                go_wp2
                go_round
                case rel => exact ⟨k + 1, by omega, int_eq (by omega), fun j hj => by
                  by_cases e : j = k
                  · rw [e]; exact (vio_of hv.out hu.out).trans (by decide)
                  · exact hG.out j (by omega)⟩
                case measure => simp [intOf]; omega
            · obtain rfl : k = i := by omega
              go_wp2
              go_round
              case rel => exact ⟨k + 1, by omega, int_eq (by omega), fit_step hF.out (by rw [hv.out]; decide) hG.out⟩
              case measure => simp [intOf]; omega
        · rw [hv] at hx
          replace hv := hide hv
          clear h5
          go_wp2_with fail
          refine (letter_1 _).mono ?_
          rintro r w1 ⟨rfl, rfl⟩
          go_wp2
          go_loop [4] (fun v4 => ∃ k : Nat, k ≤ i ∧ v4 = .int .i64 k ∧ ∀ j, j < k → vioB (f i) (f j) = false) (fun v4 => i - (intOf v4).toNat)
          case atStart => exact ⟨0, Nat.zero_le _, rfl, fun j hj => absurd hj (by omega)⟩
          case round =>
            obtain ⟨k, hk, rfl, hG⟩ := hrel
            replace hG := hide hG
            by_cases hlt2 : k < i
            · have hy : w.cell? ⟨bb, off + k, none⟩ = some (.int .i64 (f k)) := hc.out k (by omega)
              rcases val_of (all_at ((fit_iff f i).1 hF.out).1 hlt2) with hu | hu | hu | hu | hu
              · rw [hu] at hy
                replace hu := hide hu
                go_wp2_with fail
                refine (rowner_v 1 false (by decide) _).mono ?_
                rintro r w1 ⟨rfl, rfl⟩
                go_wp2_with fail
                refine (rstore_v 1 false (by decide) _).mono ?_
                rintro r w1 ⟨rfl, rfl⟩
                go_wp2_with fail
                refine (rstore_v 0 false (by decide) _).mono ?_
                rintro r w1 ⟨rfl, rfl⟩
                go_wp2
                go_round
                case rel => exact ⟨k + 1, by omega, int_eq (by omega), fun j hj => by
                  by_cases e : j = k
                  · rw [e]; exact (vio_of hv.out hu.out).trans (by decide)
                  · exact hG.out j (by omega)⟩
                case measure => simp [intOf]; omega
              · rw [hu] at hy
                replace hu := hide hu
                go_wp2_with fail
                refine (rowner_v 1 false (by decide) _).mono ?_
                rintro r w1 ⟨rfl, rfl⟩
                go_wp2_with fail
                refine (rstore_v 1 false (by decide) _).mono ?_
                rintro r w1 ⟨rfl, rfl⟩
                go_wp2_with fail
                refine (rstore_v 1 false (by decide) _).mono ?_
                rintro r w1 ⟨rfl, rfl⟩
                go_wp2
                go_round
                case rel => exact ⟨k + 1, by omega, int_eq (by omega), fun j hj => by
                  by_cases e : j = k
                  · rw [e]; exact (vio_of hv.out hu.out).trans (by decide)
                  · exact hG.out j (by omega)⟩
                case measure => simp [intOf]; omega
              · rw [hu] at hy
                replace hu := hide hu
                go_wp2_with fail
                refine (rowner_v 1 false (by decide) _).mono ?_
                rintro r w1 ⟨rfl, rfl⟩
                go_wp2_with fail
                refine (rstore_v 1 false (by decide) _).mono ?_
                rintro r w1 ⟨rfl, rfl⟩
                go_wp2_with fail
                refine (rstore_v 2 true (by decide) _).mono ?_
                rintro r w1 ⟨rfl, rfl⟩
                go_wp2
                go_ret
                exact ⟨ret_bool (fit_vio hlt2 hlt ((vio_of hv.out hu.out).trans (by decide))).symm, rfl⟩
              · rw [hu] at hy
                replace hu := hide hu
                go_wp2_with fail
                refine (rowner_v 1 false (by decide) _).mono ?_
                rintro r w1 ⟨rfl, rfl⟩
                go_wp2_with fail
                refine (rstore_v 1 false (by decide) _).mono ?_
                rintro r w1 ⟨rfl, rfl⟩
                go_wp2_with fail
                refine (rstore_v 3 false (by decide) _).mono ?_
                rintro r w1 ⟨rfl, rfl⟩
                go_wp2
                go_round
                case rel => exact ⟨k + 1, by omega, int_eq (by omega), fun j hj => by
                  by_cases e : j = k
                  · rw [e]; exact (vio_of hv.out hu.out).trans (by decide)
                  · exact hG.out j (by omega)⟩
                case measure => simp [intOf]; omega
              · rw [hu] at hy
                replace hu := hide hu
                go_wp2_with fail
                refine (rowner_v 1 false (by decide) _).mono ?_
                rintro r w1 ⟨rfl, rfl⟩
                go_wp2_with fail
                refine (rstore_v 1 false (by decide) _).mono ?_
                rintro r w1 ⟨rfl, rfl⟩
                go_wp2_with fail
                refine (rstore_v 4 true (by decide) _).mono ?_
                rintro r w1 ⟨rfl, rfl⟩
                go_wp2
                go_ret
                exact ⟨ret_bool (fit_vio hlt2 hlt ((vio_of hv.out hu.out).trans (by decide))).symm, rfl⟩
            · obtain rfl : k = i := by omega
              go_wp2
              go_round
              case rel => exact ⟨k + 1, by omega, int_eq (by omega), fit_step hF.out (by rw [hv.out]; decide) hG.out⟩
              case measure => simp [intOf]; omega
        · rw [hv] at hx
          replace hv := hide hv
          clear h5
          go_wp2_with fail
          refine (letter_2 _).mono ?_
          rintro r w1 ⟨rfl, rfl⟩
          go_wp2
          go_loop [4] (fun v4 => ∃ k : Nat, k ≤ i ∧ v4 = .int .i64 k ∧ ∀ j, j < k → vioB (f i) (f j) = false) (fun v4 => i - (intOf v4).toNat)
          case atStart => exact ⟨0, Nat.zero_le _, rfl, fun j hj => absurd hj (by omega)⟩
          case round =>
            obtain ⟨k, hk, rfl, hG⟩ := hrel
            replace hG := hide hG
            by_cases hlt2 : k < i
            · have hy : w.cell? ⟨bb, off + k, none⟩ = some (.int .i64 (f k)) := hc.out k (by omega)
              rcases val_of (all_at ((fit_iff f i).1 hF.out).1 hlt2) with hu | hu | hu | hu | hu
              · rw [hu] at hy
                replace hu := hide hu
                go_wp2_with fail
                refine (rowner_v 2 true (by decide) _).mono ?_
                rintro r w1 ⟨rfl, rfl⟩
                go_wp2_with fail
                refine (rowner_v 0 false (by decide) _).mono ?_
                rintro r w1 ⟨rfl, rfl⟩
                go_wp2_with fail
                refine (rstore_v 2 true (by decide) _).mono ?_
                rintro r w1 ⟨rfl, rfl⟩
                go_wp2_with fail
                refine (rstore_v 0 false (by decide) _).mono ?_
                rintro r w1 ⟨rfl, rfl⟩
                go_wp2
                go_round
                case rel => exact ⟨k + 1, by omega, int_eq (by omega), fun j hj => by
                  by_cases e : j = k
                  · rw [e]; exact (vio_of hv.out hu.out).trans (by decide)
                  · exact hG.out j (by omega)⟩
                case measure => simp [intOf]; omega
              · rw [hu] at hy
                replace hu := hide hu
                go_wp2_with fail
                refine (rowner_v 2 true (by decide) _).mono ?_
                rintro r w1 ⟨rfl, rfl⟩
                go_wp2_with fail
                refine (rowner_v 1 false (by decide) _).mono ?_
                rintro r w1 ⟨rfl, rfl⟩
                go_wp2_with fail
                refine (rstore_v 2 true (by decide) _).mono ?_
                rintro r w1 ⟨rfl, rfl⟩
                go_wp2
                go_ret
                exact ⟨ret_bool (fit_vio hlt2 hlt ((vio_of hv.out hu.out).trans (by decide))).symm, rfl⟩
              · rw [hu] at hy
                replace hu := hide hu
                go_wp2_with fail
                refine (rowner_v 2 true (by decide) _).mono ?_
                rintro r w1 ⟨rfl, rfl⟩
                go_wp2_with fail
                refine (rowner_v 2 true (by decide) _).mono ?_
                rintro r w1 ⟨rfl, rfl⟩
                go_wp2
                go_ret
                exact ⟨ret_bool (fit_vio hlt2 hlt ((vio_of hv.out hu.out).trans (by decide))).symm, rfl⟩
              · rw [hu] at hy
                replace hu := hide hu
                go_wp2_with fail
                refine (rowner_v 2 true (by decide) _).mono ?_
                rintro r w1 ⟨rfl, rfl⟩
                go_wp2_with fail
                refine (rowner_v 3 true (by decide) _).mono ?_
                rintro r w1 ⟨rfl, rfl⟩
                go_wp2
                go_ret
                exact ⟨ret_bool (fit_vio hlt2 hlt ((vio_of hv.out hu.out).trans (by decide))).symm, rfl⟩
              · rw [hu] at hy
                replace hu := hide hu
                go_wp2_with fail
                refine (rowner_v 2 true (by decide) _).mono ?_
                rintro r w1 ⟨rfl, rfl⟩
                go_wp2_with fail
                refine (rowner_v 4 true (by decide) _).mono ?_
                rintro r w1 ⟨rfl, rfl⟩
                go_wp2
                go_ret
                exact ⟨ret_bool (fit_vio hlt2 hlt ((vio_of hv.out hu.out).trans (by decide))).symm, rfl⟩
            · obtain rfl : k = i := by omega
              go_wp2
              go_round
              case rel => exact ⟨k + 1, by omega, int_eq (by omega), fit_step hF.out (by rw [hv.out]; decide) hG.out⟩
              case measure => simp [intOf]; omega
        · rw [hv] at hx
          replace hv := hide hv
          clear h5
          go_wp2_with fail
          refine (letter_3 _).mono ?_
          rintro r w1 ⟨rfl, rfl⟩
          go_wp2
          go_loop [4] (fun v4 => ∃ k : Nat, k ≤ i ∧ v4 = .int .i64 k ∧ ∀ j, j < k → vioB (f i) (f j) = false) (fun v4 => i - (intOf v4).toNat)
          case atStart => exact ⟨0, Nat.zero_le _, rfl, fun j hj => absurd hj (by omega)⟩
          case round =>
            obtain ⟨k, hk, rfl, hG⟩ := hrel
            replace hG := hide hG
            by_cases hlt2 : k < i
            · have hy : w.cell? ⟨bb, off + k, none⟩ = some (.int .i64 (f k)) := hc.out k (by omega)
              rcases val_of (all_at ((fit_iff f i).1 hF.out).1 hlt2) with hu | hu | hu | hu | hu
              · rw [hu] at hy
                replace hu := hide hu
                go_wp2_with fail
                refine (rowner_v 3 true (by decide) _).mono ?_
                rintro r w1 ⟨rfl, rfl⟩
                go_wp2_with fail
                refine (rowner_v 0 false (by decide) _).mono ?_
                rintro r w1 ⟨rfl, rfl⟩
                go_wp2_with fail
                refine (rstore_v 3 false (by decide) _).mono ?_
                rintro r w1 ⟨rfl, rfl⟩
                go_wp2_with fail
                refine (rstore_v 0 false (by decide) _).mono ?_
                rintro r w1 ⟨rfl, rfl⟩
                go_wp2
                go_round
                case rel => exact ⟨k + 1, by omega, int_eq (by omega), fun j hj => by
                  by_cases e : j = k
                  · rw [e]; exact (vio_of hv.out hu.out).trans (by decide)
                  · exact hG.out j (by omega)⟩
                case measure => simp [intOf]; omega
              · rw [hu] at hy
                replace hu := hide hu
                go_wp2_with fail
                refine (rowner_v 3 true (by decide) _).mono ?_
                rintro r w1 ⟨rfl, rfl⟩
                go_wp2_with fail
                refine (rowner_v 1 false (by decide) _).mono ?_
                rintro r w1 ⟨rfl, rfl⟩
                go_wp2_with fail
                refine (rstore_v 3 false (by decide) _).mono ?_
                rintro r w1 ⟨rfl, rfl⟩
                go_wp2_with fail
                refine (rstore_v 1 false (by decide) _).mono ?_
                rintro r w1 ⟨rfl, rfl⟩
                go_wp2
                go_round
                case rel => exact ⟨k + 1, by omega, int_eq (by omega), fun j hj => by
                  by_cases e : j = k
                  · rw [e]; exact (vio_of hv.out hu.out).trans (by decide)
                  · exact hG.out j (by omega)⟩
                case measure => simp [intOf]; omega
              · rw [hu] at hy
                replace hu := hide hu
                go_wp2_with fail
                refine (rowner_v 3 true (by decide) _).mono ?_
                rintro r w1 ⟨rfl, rfl⟩
                go_wp2_with fail
                refine (rowner_v 2 true (by decide) _).mono ?_
                rintro r w1 ⟨rfl, rfl⟩
                go_wp2
                go_ret
                exact ⟨ret_bool (fit_vio hlt2 hlt ((vio_of hv.out hu.out).trans (by decide))).symm, rfl⟩
              · rw [hu] at hy
                replace hu := hide hu
                go_wp2_with fail
                refine (rowner_v 3 true (by decide) _).mono ?_
                rintro r w1 ⟨rfl, rfl⟩
                go_wp2_with fail
                refine (rowner_v 3 true (by decide) _).mono ?_
                rintro r w1 ⟨rfl, rfl⟩
                go_wp2
                go_ret
                exact ⟨ret_bool (fit_vio hlt2 hlt ((vio_of hv.out hu.out).trans (by decide))).symm, rfl⟩
              · rw [hu] at hy
                replace hu := hide hu
                go_wp2_with fail
                refine (rowner_v 3 true (by decide) _).mono ?_
                rintro r w1 ⟨rfl, rfl⟩
                go_wp2_with fail
                refine (rowner_v 4 true (by decide) _).mono ?_
                rintro r w1 ⟨rfl, rfl⟩
                go_wp2
                go_ret
                exact ⟨ret_bool (fit_vio hlt2 hlt ((vio_of hv.out hu.out).trans (by decide))).symm, rfl⟩
            · obtain rfl : k = i := by omega
              go_wp2
              go_round
              case rel => exact ⟨k + 1, by omega, int_eq (by omega), fit_step hF.out (by rw [hv.out]; decide) hG.out⟩
              case measure => simp [intOf]; omega
        · rw [hv] at hx
          replace hv := hide hv
          clear h5
          go_wp2_with fail
          refine (letter_4 _).mono ?_
          rintro r w1 ⟨rfl, rfl⟩
          go_wp2
          go_loop [4] (fun v4 => ∃ k : Nat, k ≤ i ∧ v4 = .int .i64 k ∧ ∀ j, j < k → vioB (f i) (f j) = false) (fun v4 => i - (intOf v4).toNat)
          case atStart => exact ⟨0, Nat.zero_le _, rfl, fun j hj => absurd hj (by omega)⟩
          case round =>
            obtain ⟨k, hk, rfl, hG⟩ := hrel
            replace hG := hide hG
            by_cases hlt2 : k < i
            · have hy : w.cell? ⟨bb, off + k, none⟩ = some (.int .i64 (f k)) := hc.out k (by omega)
              rcases val_of (all_at ((fit_iff f i).1 hF.out).1 hlt2) with hu | hu | hu | hu | hu
              · rw [hu] at hy
                replace hu := hide hu
                go_wp2_with fail
                refine (rowner_v 4 true (by decide) _).mono ?_
                rintro r w1 ⟨rfl, rfl⟩
                go_wp2_with fail
                refine (rowner_v 0 false (by decide) _).mono ?_
                rintro r w1 ⟨rfl, rfl⟩
                go_wp2_with fail
                refine (rstore_v 4 true (by decide) _).mono ?_
                rintro r w1 ⟨rfl, rfl⟩
                go_wp2_with fail
                refine (rstore_v 0 false (by decide) _).mono ?_
                rintro r w1 ⟨rfl, rfl⟩
                go_wp2
                go_round
                case rel => exact ⟨k + 1, by omega, int_eq (by omega), fun j hj => by
                  by_cases e : j = k
                  · rw [e]; exact (vio_of hv.out hu.out).trans (by decide)
                  · exact hG.out j (by omega)⟩
                case measure => simp [intOf]; omega
              · rw [hu] at hy
                replace hu := hide hu
                go_wp2_with fail
                refine (rowner_v 4 true (by decide) _).mono ?_
                rintro r w1 ⟨rfl, rfl⟩
                go_wp2_with fail
                refine (rowner_v 1 false (by decide) _).mono ?_
                rintro r w1 ⟨rfl, rfl⟩
                go_wp2_with fail
                refine (rstore_v 4 true (by decide) _).mono ?_
                rintro r w1 ⟨rfl, rfl⟩
                go_wp2
                go_ret
                exact ⟨ret_bool (fit_vio hlt2 hlt ((vio_of hv.out hu.out).trans (by decide))).symm, rfl⟩
              · rw [hu] at hy
                replace hu := hide hu
                go_wp2_with fail
                refine (rowner_v 4 true (by decide) _).mono ?_
                rintro r w1 ⟨rfl, rfl⟩
                go_wp2_with fail
                refine (rowner_v 2 true (by decide) _).mono ?_
                rintro r w1 ⟨rfl, rfl⟩
                go_wp2
                go_ret
                exact ⟨ret_bool (fit_vio hlt2 hlt ((vio_of hv.out hu.out).trans (by decide))).symm, rfl⟩
              · rw [hu] at hy
                replace hu := hide hu
                go_wp2_with fail
                refine (rowner_v 4 true (by decide) _).mono ?_
                rintro r w1 ⟨rfl, rfl⟩
                go_wp2_with fail
                refine (rowner_v 3 true (by decide) _).mono ?_
                rintro r w1 ⟨rfl, rfl⟩
                go_wp2
                go_ret
                exact ⟨ret_bool (fit_vio hlt2 hlt ((vio_of hv.out hu.out).trans (by decide))).symm, rfl⟩
              · rw [hu] at hy
                replace hu := hide hu
                go_wp2_with fail
                refine (rowner_v 4 true (by decide) _).mono ?_
                rintro r w1 ⟨rfl, rfl⟩
                go_wp2_with fail
                refine (rowner_v 4 true (by decide) _).mono ?_
                rintro r w1 ⟨rfl, rfl⟩
                go_wp2
                go_ret
                exact ⟨ret_bool (fit_vio hlt2 hlt ((vio_of hv.out hu.out).trans (by decide))).symm, rfl⟩
            · obtain rfl : k = i := by omega
              go_wp2
              go_round
              case rel => exact ⟨k + 1, by omega, int_eq (by omega), fit_step hF.out (by rw [hv.out]; decide) hG.out⟩
              case measure => simp [intOf]; omega
      · have hi2 : isB (f i) = false := by unfold isB; simpa using h5
        replace hi2 := hide hi2
        replace h5 := hide h5
        go_wp2_with fail
        refine (letter_out (f i) hi2.out _).mono ?_
        rintro r w3 ⟨rfl, rfl⟩
        go_wp2
        go_ret
        exact ⟨ret_bool (fit_out hlt hi2.out).symm, rfl⟩
    · obtain rfl : i = n := by omega
      go_wp2
      go_ret
      exact ⟨ret_bool hF.out.symm, rfl⟩
end Go.Proofs.YtijhndmmljicmaaDoor
