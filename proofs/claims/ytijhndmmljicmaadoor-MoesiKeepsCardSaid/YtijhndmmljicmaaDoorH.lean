/- MoesiGrants, walked. -/
import Derived.Test.YtijhndmmljicmaaDoorLW
import Derived.WalkKit
import Derived.WalkSpells
import Derived.ProofKit
import Derived.Outline
import Derived.Handy
import Derived.RowKit3
import Derived.BigQuiet
import Derived.Deep.QuietTactic
import Derived.Deep.RegionHeld3
import Derived.IntWalk
import Derived.LoopTactic
import Derived.OwnWalk
namespace Go.Proofs.YtijhndmmljicmaaDoor
open Go.RowKit
set_option linter.unusedVariables false
set_option maxRecDepth 100000

def zB (s : Int) : Bool := s == 0
theorem zn {s : Int} (h : isB s = true) : zB s = nvB s := by
  have : 0 ≤ s ∧ s ≤ 4 := by unfold isB at h; simpa using h
  rcases five this with rfl | rfl | rfl | rfl | rfl <;> rfl
theorem all_zn {f : Nat → Int} {n : Nat} (h : allF isB f n = true) : allF zB f n = allF nvB f n := by
  induction n with
  | zero => rfl
  | succ n ih =>
    rw [all_succ] at h
    simp at h
    rw [all_succ, all_succ, ih h.1, zn h.2]
theorem any_not_alone {f : Nat → Int} {n : Nat} (h : anyF stB f n = true) : allF nvB f n = false := by
  induction n with
  | zero => cases h
  | succ n ih =>
    rw [any_succ] at h
    rw [all_succ]
    cases h1 : anyF stB f n
    · rw [h1] at h
      have h2 : stB (f n) = true := by simpa using h
      have : f n = 2 ∨ f n = 4 := by unfold stB at h2; simpa using h2
      have h3 : nvB (f n) = false := by rcases this with e | e <;> rw [e] <;> rfl
      rw [h3]; simp
    · rw [ih h1]; rfl
theorem grS_out {kind : Int} {f : Nat → Int} {n : Nat} (h : allF isB f n = false) : grS kind f n = 0 := by simp [grS, h]
theorem grE_out {kind : Int} (hk : kind = 1 ∨ kind = 2) {f : Nat → Int} {n : Nat} (h : allF isB f n = false) : grE kind f n = 10 := by simp [grE, h, hk]
def GtRel (n : Nat) (f : Nat → Int) (w : World) (v7 v8 v9 : Value) (wr : World) : Prop :=
  ∃ k : Nat, k ≤ n ∧ v9 = .int .i64 k ∧ v7 = .bool (allF zB f k) ∧ v8 = .bool (anyF stB f k) ∧ allF isB f k = true ∧ Below w.heap.size w wr

set_option maxHeartbeats 4000000 in
theorem grants_1 (n : Nat) (hn : n ≤ 20) (hn0 : 0 < n) (f : Nat → Int) (bb off c : Nat) (w : World) (T : Tab w) (hb : bb < w.heap.size) (hc : ∀ j, j < n → w.cell? ⟨bb, off + j, none⟩ = some (.int .i64 (f j))) :
    Calls Tryd.prog 5 #[.int .i64 1, .slice (some ⟨bb, off, none⟩) n c] w fun r w' => r = .returned (.bool true) ∧ Below w.heap.size w w' := by
  have hS := hide (show Sl w (.slice (some ⟨bb, off, none⟩) n c) n f from .inr ⟨bb, off, c, rfl, hb, hc⟩)
  replace hc := hide hc
  replace T := hide T
  go_enter Tryd.func5, Tryd.ntmps5
  go_wp2_with fail
  refine (granted_any 1 n (by omega) f _ _ (unhide T) (unhide hS)).mono ?_
  rintro r w1 ⟨rfl, hb1⟩
  have TT := hide ((unhide T).next hb1)
  go_wp2
  go_loopw [7, 8, 9] (fun v7 v8 v9 wr => GtRel n f w v7 v8 v9 wr) (fun _ _ v9 _ => n - (intOf v9).toNat)
  case atStart => exact ⟨0, Nat.zero_le _, rfl, rfl, rfl, rfl, hb1⟩
  case round =>
    obtain ⟨k, hk, rfl, rfl, rfl, hI, hB⟩ := hrel
    replace hI := hide hI
    clear TT
    have TT := hide (Tab.next (unhide T) hB)
    by_cases hlt : k < n
    · have hx : wr.cell? ⟨bb, off + k, none⟩ = some (.int .i64 (f k)) := cell_next hB hb (hc.out k hlt)
      by_cases h5 : 0 ≤ f k ∧ f k ≤ 4
      · rcases five h5 with hv | hv | hv | hv | hv
        · rw [hv] at hx
          replace hv := hide hv
          clear h5
          cases ha : allF zB f k
          · cases hw : anyF stB f k
            ·
              go_wp2_with fail
              refine (letter_0 _).mono ?_
              rintro r w1 ⟨rfl, rfl⟩
              go_wp2_with fail
              refine (rstore_v 0 false (by decide) _).mono ?_
              rintro r w1 ⟨rfl, rfl⟩
              go_wp2
              go_roundw
              case rel => exact ⟨k + 1, by omega, int_eq (by omega), bool_eq (by rw [all_succ, show zB (f k) = true from by rw [hv.out]; decide, ha]; rfl), bool_eq (by rw [any_succ, show stB (f k) = false from by rw [hv.out]; decide, hw]; rfl), by rw [all_succ, hI.out, show isB (f k) = true from by rw [hv.out]; decide]; rfl, hB⟩
              case measure => simp [intOf]; omega
            ·
              go_wp2_with fail
              refine (letter_0 _).mono ?_
              rintro r w1 ⟨rfl, rfl⟩
              go_wp2
              go_roundw
              case rel => exact ⟨k + 1, by omega, int_eq (by omega), bool_eq (by rw [all_succ, show zB (f k) = true from by rw [hv.out]; decide, ha]; rfl), bool_eq (by rw [any_succ, show stB (f k) = false from by rw [hv.out]; decide, hw]; rfl), by rw [all_succ, hI.out, show isB (f k) = true from by rw [hv.out]; decide]; rfl, hB⟩
              case measure => simp [intOf]; omega
          · cases hw : anyF stB f k
            ·
              go_wp2_with fail
              refine (letter_0 _).mono ?_
              rintro r w1 ⟨rfl, rfl⟩
              go_wp2_with fail
              refine (rstore_v 0 false (by decide) _).mono ?_
              rintro r w1 ⟨rfl, rfl⟩
              go_wp2
              go_roundw
              case rel => exact ⟨k + 1, by omega, int_eq (by omega), bool_eq (by rw [all_succ, show zB (f k) = true from by rw [hv.out]; decide, ha]; rfl), bool_eq (by rw [any_succ, show stB (f k) = false from by rw [hv.out]; decide, hw]; rfl), by rw [all_succ, hI.out, show isB (f k) = true from by rw [hv.out]; decide]; rfl, hB⟩
              case measure => simp [intOf]; omega
            ·
              go_wp2_with fail
              refine (letter_0 _).mono ?_
              rintro r w1 ⟨rfl, rfl⟩
              go_wp2
              go_roundw
              case rel => exact ⟨k + 1, by omega, int_eq (by omega), bool_eq (by rw [all_succ, show zB (f k) = true from by rw [hv.out]; decide, ha]; rfl), bool_eq (by rw [any_succ, show stB (f k) = false from by rw [hv.out]; decide, hw]; rfl), by rw [all_succ, hI.out, show isB (f k) = true from by rw [hv.out]; decide]; rfl, hB⟩
              case measure => simp [intOf]; omega
        · rw [hv] at hx
          replace hv := hide hv
          clear h5
          cases ha : allF zB f k
          · cases hw : anyF stB f k
            ·
              go_wp2_with fail
              refine (letter_1 _).mono ?_
              rintro r w1 ⟨rfl, rfl⟩
              go_wp2_with fail
              refine (rstore_v 1 false (by decide) _).mono ?_
              rintro r w1 ⟨rfl, rfl⟩
              go_wp2
              go_roundw
              case rel => exact ⟨k + 1, by omega, int_eq (by omega), bool_eq (by rw [all_succ, show zB (f k) = false from by rw [hv.out]; decide, ha]; rfl), bool_eq (by rw [any_succ, show stB (f k) = false from by rw [hv.out]; decide, hw]; rfl), by rw [all_succ, hI.out, show isB (f k) = true from by rw [hv.out]; decide]; rfl, hB⟩
              case measure => simp [intOf]; omega
            ·
              go_wp2_with fail
              refine (letter_1 _).mono ?_
              rintro r w1 ⟨rfl, rfl⟩
              go_wp2
              go_roundw
              case rel => exact ⟨k + 1, by omega, int_eq (by omega), bool_eq (by rw [all_succ, show zB (f k) = false from by rw [hv.out]; decide, ha]; rfl), bool_eq (by rw [any_succ, show stB (f k) = false from by rw [hv.out]; decide, hw]; rfl), by rw [all_succ, hI.out, show isB (f k) = true from by rw [hv.out]; decide]; rfl, hB⟩
              case measure => simp [intOf]; omega
          · cases hw : anyF stB f k
            ·
              go_wp2_with fail
              refine (letter_1 _).mono ?_
              rintro r w1 ⟨rfl, rfl⟩
              go_wp2_with fail
              refine (rstore_v 1 false (by decide) _).mono ?_
              rintro r w1 ⟨rfl, rfl⟩
              go_wp2
              go_roundw
              case rel => exact ⟨k + 1, by omega, int_eq (by omega), bool_eq (by rw [all_succ, show zB (f k) = false from by rw [hv.out]; decide, ha]; rfl), bool_eq (by rw [any_succ, show stB (f k) = false from by rw [hv.out]; decide, hw]; rfl), by rw [all_succ, hI.out, show isB (f k) = true from by rw [hv.out]; decide]; rfl, hB⟩
              case measure => simp [intOf]; omega
            ·
              go_wp2_with fail
              refine (letter_1 _).mono ?_
              rintro r w1 ⟨rfl, rfl⟩
              go_wp2
              go_roundw
              case rel => exact ⟨k + 1, by omega, int_eq (by omega), bool_eq (by rw [all_succ, show zB (f k) = false from by rw [hv.out]; decide, ha]; rfl), bool_eq (by rw [any_succ, show stB (f k) = false from by rw [hv.out]; decide, hw]; rfl), by rw [all_succ, hI.out, show isB (f k) = true from by rw [hv.out]; decide]; rfl, hB⟩
              case measure => simp [intOf]; omega
        · rw [hv] at hx
          replace hv := hide hv
          clear h5
          cases ha : allF zB f k
          · cases hw : anyF stB f k
            ·
              go_wp2_with fail
              refine (letter_2 _).mono ?_
              rintro r w1 ⟨rfl, rfl⟩
              go_wp2_with fail
              refine (rstore_v 2 true (by decide) _).mono ?_
              rintro r w1 ⟨rfl, rfl⟩
              go_wp2
              go_roundw
              case rel => exact ⟨k + 1, by omega, int_eq (by omega), bool_eq (by rw [all_succ, show zB (f k) = false from by rw [hv.out]; decide, ha]; rfl), bool_eq (by rw [any_succ, show stB (f k) = true from by rw [hv.out]; decide, hw]; rfl), by rw [all_succ, hI.out, show isB (f k) = true from by rw [hv.out]; decide]; rfl, hB⟩
              case measure => simp [intOf]; omega
            ·
              go_wp2_with fail
              refine (letter_2 _).mono ?_
              rintro r w1 ⟨rfl, rfl⟩
              go_wp2
              go_roundw
              case rel => exact ⟨k + 1, by omega, int_eq (by omega), bool_eq (by rw [all_succ, show zB (f k) = false from by rw [hv.out]; decide, ha]; rfl), bool_eq (by rw [any_succ, show stB (f k) = true from by rw [hv.out]; decide, hw]; rfl), by rw [all_succ, hI.out, show isB (f k) = true from by rw [hv.out]; decide]; rfl, hB⟩
              case measure => simp [intOf]; omega
          · cases hw : anyF stB f k
            ·
              go_wp2_with fail
              refine (letter_2 _).mono ?_
              rintro r w1 ⟨rfl, rfl⟩
              go_wp2_with fail
              refine (rstore_v 2 true (by decide) _).mono ?_
              rintro r w1 ⟨rfl, rfl⟩
              go_wp2
              go_roundw
              case rel => exact ⟨k + 1, by omega, int_eq (by omega), bool_eq (by rw [all_succ, show zB (f k) = false from by rw [hv.out]; decide, ha]; rfl), bool_eq (by rw [any_succ, show stB (f k) = true from by rw [hv.out]; decide, hw]; rfl), by rw [all_succ, hI.out, show isB (f k) = true from by rw [hv.out]; decide]; rfl, hB⟩
              case measure => simp [intOf]; omega
            ·
              go_wp2_with fail
              refine (letter_2 _).mono ?_
              rintro r w1 ⟨rfl, rfl⟩
              go_wp2
              go_roundw
              case rel => exact ⟨k + 1, by omega, int_eq (by omega), bool_eq (by rw [all_succ, show zB (f k) = false from by rw [hv.out]; decide, ha]; rfl), bool_eq (by rw [any_succ, show stB (f k) = true from by rw [hv.out]; decide, hw]; rfl), by rw [all_succ, hI.out, show isB (f k) = true from by rw [hv.out]; decide]; rfl, hB⟩
              case measure => simp [intOf]; omega
        · rw [hv] at hx
          replace hv := hide hv
          clear h5
          cases ha : allF zB f k
          · cases hw : anyF stB f k
            ·
              go_wp2_with fail
              refine (letter_3 _).mono ?_
              rintro r w1 ⟨rfl, rfl⟩
              go_wp2_with fail
              refine (rstore_v 3 false (by decide) _).mono ?_
              rintro r w1 ⟨rfl, rfl⟩
              go_wp2
              go_roundw
              case rel => exact ⟨k + 1, by omega, int_eq (by omega), bool_eq (by rw [all_succ, show zB (f k) = false from by rw [hv.out]; decide, ha]; rfl), bool_eq (by rw [any_succ, show stB (f k) = false from by rw [hv.out]; decide, hw]; rfl), by rw [all_succ, hI.out, show isB (f k) = true from by rw [hv.out]; decide]; rfl, hB⟩
              case measure => simp [intOf]; omega
            ·
              go_wp2_with fail
              refine (letter_3 _).mono ?_
              rintro r w1 ⟨rfl, rfl⟩
              go_wp2
              go_roundw
              case rel => exact ⟨k + 1, by omega, int_eq (by omega), bool_eq (by rw [all_succ, show zB (f k) = false from by rw [hv.out]; decide, ha]; rfl), bool_eq (by rw [any_succ, show stB (f k) = false from by rw [hv.out]; decide, hw]; rfl), by rw [all_succ, hI.out, show isB (f k) = true from by rw [hv.out]; decide]; rfl, hB⟩
              case measure => simp [intOf]; omega
          · cases hw : anyF stB f k
            ·
              go_wp2_with fail
              refine (letter_3 _).mono ?_
              rintro r w1 ⟨rfl, rfl⟩
              go_wp2_with fail
              refine (rstore_v 3 false (by decide) _).mono ?_
              rintro r w1 ⟨rfl, rfl⟩
              go_wp2
              go_roundw
              case rel => exact ⟨k + 1, by omega, int_eq (by omega), bool_eq (by rw [all_succ, show zB (f k) = false from by rw [hv.out]; decide, ha]; rfl), bool_eq (by rw [any_succ, show stB (f k) = false from by rw [hv.out]; decide, hw]; rfl), by rw [all_succ, hI.out, show isB (f k) = true from by rw [hv.out]; decide]; rfl, hB⟩
              case measure => simp [intOf]; omega
            ·
              go_wp2_with fail
              refine (letter_3 _).mono ?_
              rintro r w1 ⟨rfl, rfl⟩
              go_wp2
              go_roundw
              case rel => exact ⟨k + 1, by omega, int_eq (by omega), bool_eq (by rw [all_succ, show zB (f k) = false from by rw [hv.out]; decide, ha]; rfl), bool_eq (by rw [any_succ, show stB (f k) = false from by rw [hv.out]; decide, hw]; rfl), by rw [all_succ, hI.out, show isB (f k) = true from by rw [hv.out]; decide]; rfl, hB⟩
              case measure => simp [intOf]; omega
        · rw [hv] at hx
          replace hv := hide hv
          clear h5
          cases ha : allF zB f k
          · cases hw : anyF stB f k
            ·
              go_wp2_with fail
              refine (letter_4 _).mono ?_
              rintro r w1 ⟨rfl, rfl⟩
              go_wp2_with fail
              refine (rstore_v 4 true (by decide) _).mono ?_
              rintro r w1 ⟨rfl, rfl⟩
              go_wp2
              go_roundw
              case rel => exact ⟨k + 1, by omega, int_eq (by omega), bool_eq (by rw [all_succ, show zB (f k) = false from by rw [hv.out]; decide, ha]; rfl), bool_eq (by rw [any_succ, show stB (f k) = true from by rw [hv.out]; decide, hw]; rfl), by rw [all_succ, hI.out, show isB (f k) = true from by rw [hv.out]; decide]; rfl, hB⟩
              case measure => simp [intOf]; omega
            ·
              go_wp2_with fail
              refine (letter_4 _).mono ?_
              rintro r w1 ⟨rfl, rfl⟩
              go_wp2
              go_roundw
              case rel => exact ⟨k + 1, by omega, int_eq (by omega), bool_eq (by rw [all_succ, show zB (f k) = false from by rw [hv.out]; decide, ha]; rfl), bool_eq (by rw [any_succ, show stB (f k) = true from by rw [hv.out]; decide, hw]; rfl), by rw [all_succ, hI.out, show isB (f k) = true from by rw [hv.out]; decide]; rfl, hB⟩
              case measure => simp [intOf]; omega
          · cases hw : anyF stB f k
            ·
              go_wp2_with fail
              refine (letter_4 _).mono ?_
              rintro r w1 ⟨rfl, rfl⟩
              go_wp2_with fail
              refine (rstore_v 4 true (by decide) _).mono ?_
              rintro r w1 ⟨rfl, rfl⟩
              go_wp2
              go_roundw
              case rel => exact ⟨k + 1, by omega, int_eq (by omega), bool_eq (by rw [all_succ, show zB (f k) = false from by rw [hv.out]; decide, ha]; rfl), bool_eq (by rw [any_succ, show stB (f k) = true from by rw [hv.out]; decide, hw]; rfl), by rw [all_succ, hI.out, show isB (f k) = true from by rw [hv.out]; decide]; rfl, hB⟩
              case measure => simp [intOf]; omega
            ·
              go_wp2_with fail
              refine (letter_4 _).mono ?_
              rintro r w1 ⟨rfl, rfl⟩
              go_wp2
              go_roundw
              case rel => exact ⟨k + 1, by omega, int_eq (by omega), bool_eq (by rw [all_succ, show zB (f k) = false from by rw [hv.out]; decide, ha]; rfl), bool_eq (by rw [any_succ, show stB (f k) = true from by rw [hv.out]; decide, hw]; rfl), by rw [all_succ, hI.out, show isB (f k) = true from by rw [hv.out]; decide]; rfl, hB⟩
              case measure => simp [intOf]; omega
      · have hi : isB (f k) = false := by unfold isB; simpa using h5
        have e1 : (grS 1 f n == 0) = true := by rw [grS_out (all_false hlt hi)]; rfl
        have e2 : (grE 1 f n == 10) = true := by rw [grE_out (by decide) (all_false hlt hi)]; rfl
        replace hi := hide hi
        replace h5 := hide h5
        go_wp2_with fail
        refine (letter_out (f k) hi.out _).mono ?_
        rintro r w3 ⟨rfl, rfl⟩
        go_wp2_with fail
        refine (awake_ok _ (unhide TT)).mono ?_
        rintro r w9 ⟨rfl, hb9⟩
        go_wp2
        go_ret
        exact ⟨rfl, hB.trans (hb9.mono hB.size)⟩
    · obtain rfl : k = n := by omega
      have hz := hide (all_zn hI.out)
      cases ha : allF zB f k
      · cases hw : anyF stB f k
        ·
          have e1 : (grS 1 f k == 1) = true := by unfold grS; rw [hI.out, ← hz.out, ha]; first | rfl | (rw [hw]; rfl)
          have e2 : (grE 1 f k == 0) = true := by unfold grE; rw [hI.out, ← hz.out]; first | (rw [ha]; first | rfl | (rw [hw]; rfl)) | (rw [hw]; rfl)
          go_wp2_with fail
          refine (awake_ok _ (unhide TT)).mono ?_
          rintro r w9 ⟨rfl, hb9⟩
          go_wp2
          go_ret
          exact ⟨rfl, hB.trans (hb9.mono hB.size)⟩
        ·
          have e1 : (grS 1 f k == 0) = true := by unfold grS; rw [hI.out, ← hz.out, ha]; first | rfl | (rw [hw]; rfl)
          have e2 : (grE 1 f k == 16) = true := by unfold grE; rw [hI.out, ← hz.out]; first | (rw [ha]; first | rfl | (rw [hw]; rfl)) | (rw [hw]; rfl)
          go_wp2_with fail
          refine (awake_ok _ (unhide TT)).mono ?_
          rintro r w9 ⟨rfl, hb9⟩
          go_wp2
          go_ret
          exact ⟨rfl, hB.trans (hb9.mono hB.size)⟩
      · cases hw : anyF stB f k
        ·
          have e1 : (grS 1 f k == 2) = true := by unfold grS; rw [hI.out, ← hz.out, ha]; first | rfl | (rw [hw]; rfl)
          have e2 : (grE 1 f k == 0) = true := by unfold grE; rw [hI.out, ← hz.out]; first | (rw [ha]; first | rfl | (rw [hw]; rfl)) | (rw [hw]; rfl)
          go_wp2_with fail
          refine (awake_ok _ (unhide TT)).mono ?_
          rintro r w9 ⟨rfl, hb9⟩
          go_wp2
          go_ret
          exact ⟨rfl, hB.trans (hb9.mono hB.size)⟩
        ·
          exact absurd (any_not_alone hw) (by rw [← hz.out, ha]; simp)

set_option maxHeartbeats 4000000 in
theorem grants_2 (n : Nat) (hn : n ≤ 20) (hn0 : 0 < n) (f : Nat → Int) (bb off c : Nat) (w : World) (T : Tab w) (hb : bb < w.heap.size) (hc : ∀ j, j < n → w.cell? ⟨bb, off + j, none⟩ = some (.int .i64 (f j))) :
    Calls Tryd.prog 5 #[.int .i64 2, .slice (some ⟨bb, off, none⟩) n c] w fun r w' => r = .returned (.bool true) ∧ Below w.heap.size w w' := by
  have hS := hide (show Sl w (.slice (some ⟨bb, off, none⟩) n c) n f from .inr ⟨bb, off, c, rfl, hb, hc⟩)
  replace hc := hide hc
  replace T := hide T
  go_enter Tryd.func5, Tryd.ntmps5
  go_wp2_with fail
  refine (granted_any 2 n (by omega) f _ _ (unhide T) (unhide hS)).mono ?_
  rintro r w1 ⟨rfl, hb1⟩
  have TT := hide ((unhide T).next hb1)
  go_wp2
  go_loopw [7, 8, 9] (fun v7 v8 v9 wr => GtRel n f w v7 v8 v9 wr) (fun _ _ v9 _ => n - (intOf v9).toNat)
  case atStart => exact ⟨0, Nat.zero_le _, rfl, rfl, rfl, rfl, hb1⟩
  case round =>
    obtain ⟨k, hk, rfl, rfl, rfl, hI, hB⟩ := hrel
    replace hI := hide hI
    clear TT
    have TT := hide (Tab.next (unhide T) hB)
    by_cases hlt : k < n
    · have hx : wr.cell? ⟨bb, off + k, none⟩ = some (.int .i64 (f k)) := cell_next hB hb (hc.out k hlt)
      by_cases h5 : 0 ≤ f k ∧ f k ≤ 4
      · rcases five h5 with hv | hv | hv | hv | hv
        · rw [hv] at hx
          replace hv := hide hv
          clear h5
          cases ha : allF zB f k
          · cases hw : anyF stB f k
            ·
              go_wp2_with fail
              refine (letter_0 _).mono ?_
              rintro r w1 ⟨rfl, rfl⟩
              go_wp2_with fail
              refine (rstore_v 0 false (by decide) _).mono ?_
              rintro r w1 ⟨rfl, rfl⟩
              go_wp2
              go_roundw
              case rel => exact ⟨k + 1, by omega, int_eq (by omega), bool_eq (by rw [all_succ, show zB (f k) = true from by rw [hv.out]; decide, ha]; rfl), bool_eq (by rw [any_succ, show stB (f k) = false from by rw [hv.out]; decide, hw]; rfl), by rw [all_succ, hI.out, show isB (f k) = true from by rw [hv.out]; decide]; rfl, hB⟩
              case measure => simp [intOf]; omega
            ·
              go_wp2_with fail
              refine (letter_0 _).mono ?_
              rintro r w1 ⟨rfl, rfl⟩
              go_wp2
              go_roundw
              case rel => exact ⟨k + 1, by omega, int_eq (by omega), bool_eq (by rw [all_succ, show zB (f k) = true from by rw [hv.out]; decide, ha]; rfl), bool_eq (by rw [any_succ, show stB (f k) = false from by rw [hv.out]; decide, hw]; rfl), by rw [all_succ, hI.out, show isB (f k) = true from by rw [hv.out]; decide]; rfl, hB⟩
              case measure => simp [intOf]; omega
          · cases hw : anyF stB f k
            ·
              go_wp2_with fail
              refine (letter_0 _).mono ?_
              rintro r w1 ⟨rfl, rfl⟩
              go_wp2_with fail
              refine (rstore_v 0 false (by decide) _).mono ?_
              rintro r w1 ⟨rfl, rfl⟩
              go_wp2
              go_roundw
              case rel => exact ⟨k + 1, by omega, int_eq (by omega), bool_eq (by rw [all_succ, show zB (f k) = true from by rw [hv.out]; decide, ha]; rfl), bool_eq (by rw [any_succ, show stB (f k) = false from by rw [hv.out]; decide, hw]; rfl), by rw [all_succ, hI.out, show isB (f k) = true from by rw [hv.out]; decide]; rfl, hB⟩
              case measure => simp [intOf]; omega
            ·
              go_wp2_with fail
              refine (letter_0 _).mono ?_
              rintro r w1 ⟨rfl, rfl⟩
              go_wp2
              go_roundw
              case rel => exact ⟨k + 1, by omega, int_eq (by omega), bool_eq (by rw [all_succ, show zB (f k) = true from by rw [hv.out]; decide, ha]; rfl), bool_eq (by rw [any_succ, show stB (f k) = false from by rw [hv.out]; decide, hw]; rfl), by rw [all_succ, hI.out, show isB (f k) = true from by rw [hv.out]; decide]; rfl, hB⟩
              case measure => simp [intOf]; omega
        · rw [hv] at hx
          replace hv := hide hv
          clear h5
          cases ha : allF zB f k
          · cases hw : anyF stB f k
            ·
              go_wp2_with fail
              refine (letter_1 _).mono ?_
              rintro r w1 ⟨rfl, rfl⟩
              go_wp2_with fail
              refine (rstore_v 1 false (by decide) _).mono ?_
              rintro r w1 ⟨rfl, rfl⟩
              go_wp2
              go_roundw
              case rel => exact ⟨k + 1, by omega, int_eq (by omega), bool_eq (by rw [all_succ, show zB (f k) = false from by rw [hv.out]; decide, ha]; rfl), bool_eq (by rw [any_succ, show stB (f k) = false from by rw [hv.out]; decide, hw]; rfl), by rw [all_succ, hI.out, show isB (f k) = true from by rw [hv.out]; decide]; rfl, hB⟩
              case measure => simp [intOf]; omega
            ·
              go_wp2_with fail
              refine (letter_1 _).mono ?_
              rintro r w1 ⟨rfl, rfl⟩
              go_wp2
              go_roundw
              case rel => exact ⟨k + 1, by omega, int_eq (by omega), bool_eq (by rw [all_succ, show zB (f k) = false from by rw [hv.out]; decide, ha]; rfl), bool_eq (by rw [any_succ, show stB (f k) = false from by rw [hv.out]; decide, hw]; rfl), by rw [all_succ, hI.out, show isB (f k) = true from by rw [hv.out]; decide]; rfl, hB⟩
              case measure => simp [intOf]; omega
          · cases hw : anyF stB f k
            ·
              go_wp2_with fail
              refine (letter_1 _).mono ?_
              rintro r w1 ⟨rfl, rfl⟩
              go_wp2_with fail
              refine (rstore_v 1 false (by decide) _).mono ?_
              rintro r w1 ⟨rfl, rfl⟩
              go_wp2
              go_roundw
              case rel => exact ⟨k + 1, by omega, int_eq (by omega), bool_eq (by rw [all_succ, show zB (f k) = false from by rw [hv.out]; decide, ha]; rfl), bool_eq (by rw [any_succ, show stB (f k) = false from by rw [hv.out]; decide, hw]; rfl), by rw [all_succ, hI.out, show isB (f k) = true from by rw [hv.out]; decide]; rfl, hB⟩
              case measure => simp [intOf]; omega
            ·
              go_wp2_with fail
              refine (letter_1 _).mono ?_
              rintro r w1 ⟨rfl, rfl⟩
              go_wp2
              go_roundw
              case rel => exact ⟨k + 1, by omega, int_eq (by omega), bool_eq (by rw [all_succ, show zB (f k) = false from by rw [hv.out]; decide, ha]; rfl), bool_eq (by rw [any_succ, show stB (f k) = false from by rw [hv.out]; decide, hw]; rfl), by rw [all_succ, hI.out, show isB (f k) = true from by rw [hv.out]; decide]; rfl, hB⟩
              case measure => simp [intOf]; omega
        · rw [hv] at hx
          replace hv := hide hv
          clear h5
          cases ha : allF zB f k
          · cases hw : anyF stB f k
            ·
              go_wp2_with fail
              refine (letter_2 _).mono ?_
              rintro r w1 ⟨rfl, rfl⟩
              go_wp2_with fail
              refine (rstore_v 2 true (by decide) _).mono ?_
              rintro r w1 ⟨rfl, rfl⟩
              go_wp2
              go_roundw
              case rel => exact ⟨k + 1, by omega, int_eq (by omega), bool_eq (by rw [all_succ, show zB (f k) = false from by rw [hv.out]; decide, ha]; rfl), bool_eq (by rw [any_succ, show stB (f k) = true from by rw [hv.out]; decide, hw]; rfl), by rw [all_succ, hI.out, show isB (f k) = true from by rw [hv.out]; decide]; rfl, hB⟩
              case measure => simp [intOf]; omega
            ·
              go_wp2_with fail
              refine (letter_2 _).mono ?_
              rintro r w1 ⟨rfl, rfl⟩
              go_wp2
              go_roundw
              case rel => exact ⟨k + 1, by omega, int_eq (by omega), bool_eq (by rw [all_succ, show zB (f k) = false from by rw [hv.out]; decide, ha]; rfl), bool_eq (by rw [any_succ, show stB (f k) = true from by rw [hv.out]; decide, hw]; rfl), by rw [all_succ, hI.out, show isB (f k) = true from by rw [hv.out]; decide]; rfl, hB⟩
              case measure => simp [intOf]; omega
          · cases hw : anyF stB f k
            ·
              go_wp2_with fail
              refine (letter_2 _).mono ?_
              rintro r w1 ⟨rfl, rfl⟩
              go_wp2_with fail
              refine (rstore_v 2 true (by decide) _).mono ?_
              rintro r w1 ⟨rfl, rfl⟩
              go_wp2
              go_roundw
              case rel => exact ⟨k + 1, by omega, int_eq (by omega), bool_eq (by rw [all_succ, show zB (f k) = false from by rw [hv.out]; decide, ha]; rfl), bool_eq (by rw [any_succ, show stB (f k) = true from by rw [hv.out]; decide, hw]; rfl), by rw [all_succ, hI.out, show isB (f k) = true from by rw [hv.out]; decide]; rfl, hB⟩
              case measure => simp [intOf]; omega
            ·
              go_wp2_with fail
              refine (letter_2 _).mono ?_
              rintro r w1 ⟨rfl, rfl⟩
              go_wp2
              go_roundw
              case rel => exact ⟨k + 1, by omega, int_eq (by omega), bool_eq (by rw [all_succ, show zB (f k) = false from by rw [hv.out]; decide, ha]; rfl), bool_eq (by rw [any_succ, show stB (f k) = true from by rw [hv.out]; decide, hw]; rfl), by rw [all_succ, hI.out, show isB (f k) = true from by rw [hv.out]; decide]; rfl, hB⟩
              case measure => simp [intOf]; omega
        · rw [hv] at hx
          replace hv := hide hv
          clear h5
          cases ha : allF zB f k
          · cases hw : anyF stB f k
            ·
              go_wp2_with fail
              refine (letter_3 _).mono ?_
              rintro r w1 ⟨rfl, rfl⟩
              go_wp2_with fail
              refine (rstore_v 3 false (by decide) _).mono ?_
              rintro r w1 ⟨rfl, rfl⟩
              go_wp2
              go_roundw
              case rel => exact ⟨k + 1, by omega, int_eq (by omega), bool_eq (by rw [all_succ, show zB (f k) = false from by rw [hv.out]; decide, ha]; rfl), bool_eq (by rw [any_succ, show stB (f k) = false from by rw [hv.out]; decide, hw]; rfl), by rw [all_succ, hI.out, show isB (f k) = true from by rw [hv.out]; decide]; rfl, hB⟩
              case measure => simp [intOf]; omega
            ·
              go_wp2_with fail
              refine (letter_3 _).mono ?_
              rintro r w1 ⟨rfl, rfl⟩
              go_wp2
              go_roundw
              case rel => exact ⟨k + 1, by omega, int_eq (by omega), bool_eq (by rw [all_succ, show zB (f k) = false from by rw [hv.out]; decide, ha]; rfl), bool_eq (by rw [any_succ, show stB (f k) = false from by rw [hv.out]; decide, hw]; rfl), by rw [all_succ, hI.out, show isB (f k) = true from by rw [hv.out]; decide]; rfl, hB⟩
              case measure => simp [intOf]; omega
          · cases hw : anyF stB f k
            ·
              go_wp2_with fail
              refine (letter_3 _).mono ?_
              rintro r w1 ⟨rfl, rfl⟩
              go_wp2_with fail
              refine (rstore_v 3 false (by decide) _).mono ?_
              rintro r w1 ⟨rfl, rfl⟩
              go_wp2
              go_roundw
              case rel => exact ⟨k + 1, by omega, int_eq (by omega), bool_eq (by rw [all_succ, show zB (f k) = false from by rw [hv.out]; decide, ha]; rfl), bool_eq (by rw [any_succ, show stB (f k) = false from by rw [hv.out]; decide, hw]; rfl), by rw [all_succ, hI.out, show isB (f k) = true from by rw [hv.out]; decide]; rfl, hB⟩
              case measure => simp [intOf]; omega
            ·
              go_wp2_with fail
              refine (letter_3 _).mono ?_
              rintro r w1 ⟨rfl, rfl⟩
              go_wp2
              go_roundw
              case rel => exact ⟨k + 1, by omega, int_eq (by omega), bool_eq (by rw [all_succ, show zB (f k) = false from by rw [hv.out]; decide, ha]; rfl), bool_eq (by rw [any_succ, show stB (f k) = false from by rw [hv.out]; decide, hw]; rfl), by rw [all_succ, hI.out, show isB (f k) = true from by rw [hv.out]; decide]; rfl, hB⟩
              case measure => simp [intOf]; omega
        · rw [hv] at hx
          replace hv := hide hv
          clear h5
          cases ha : allF zB f k
          · cases hw : anyF stB f k
            ·
              go_wp2_with fail
              refine (letter_4 _).mono ?_
              rintro r w1 ⟨rfl, rfl⟩
              go_wp2_with fail
              refine (rstore_v 4 true (by decide) _).mono ?_
              rintro r w1 ⟨rfl, rfl⟩
              go_wp2
              go_roundw
              case rel => exact ⟨k + 1, by omega, int_eq (by omega), bool_eq (by rw [all_succ, show zB (f k) = false from by rw [hv.out]; decide, ha]; rfl), bool_eq (by rw [any_succ, show stB (f k) = true from by rw [hv.out]; decide, hw]; rfl), by rw [all_succ, hI.out, show isB (f k) = true from by rw [hv.out]; decide]; rfl, hB⟩
              case measure => simp [intOf]; omega
            ·
              go_wp2_with fail
              refine (letter_4 _).mono ?_
              rintro r w1 ⟨rfl, rfl⟩
              go_wp2
              go_roundw
              case rel => exact ⟨k + 1, by omega, int_eq (by omega), bool_eq (by rw [all_succ, show zB (f k) = false from by rw [hv.out]; decide, ha]; rfl), bool_eq (by rw [any_succ, show stB (f k) = true from by rw [hv.out]; decide, hw]; rfl), by rw [all_succ, hI.out, show isB (f k) = true from by rw [hv.out]; decide]; rfl, hB⟩
              case measure => simp [intOf]; omega
          · cases hw : anyF stB f k
            ·
              go_wp2_with fail
              refine (letter_4 _).mono ?_
              rintro r w1 ⟨rfl, rfl⟩
              go_wp2_with fail
              refine (rstore_v 4 true (by decide) _).mono ?_
              rintro r w1 ⟨rfl, rfl⟩
              go_wp2
              go_roundw
              case rel => exact ⟨k + 1, by omega, int_eq (by omega), bool_eq (by rw [all_succ, show zB (f k) = false from by rw [hv.out]; decide, ha]; rfl), bool_eq (by rw [any_succ, show stB (f k) = true from by rw [hv.out]; decide, hw]; rfl), by rw [all_succ, hI.out, show isB (f k) = true from by rw [hv.out]; decide]; rfl, hB⟩
              case measure => simp [intOf]; omega
            ·
              go_wp2_with fail
              refine (letter_4 _).mono ?_
              rintro r w1 ⟨rfl, rfl⟩
              go_wp2
              go_roundw
              case rel => exact ⟨k + 1, by omega, int_eq (by omega), bool_eq (by rw [all_succ, show zB (f k) = false from by rw [hv.out]; decide, ha]; rfl), bool_eq (by rw [any_succ, show stB (f k) = true from by rw [hv.out]; decide, hw]; rfl), by rw [all_succ, hI.out, show isB (f k) = true from by rw [hv.out]; decide]; rfl, hB⟩
              case measure => simp [intOf]; omega
      · have hi : isB (f k) = false := by unfold isB; simpa using h5
        have e1 : (grS 2 f n == 0) = true := by rw [grS_out (all_false hlt hi)]; rfl
        have e2 : (grE 2 f n == 10) = true := by rw [grE_out (by decide) (all_false hlt hi)]; rfl
        replace hi := hide hi
        replace h5 := hide h5
        go_wp2_with fail
        refine (letter_out (f k) hi.out _).mono ?_
        rintro r w3 ⟨rfl, rfl⟩
        go_wp2_with fail
        refine (awake_ok _ (unhide TT)).mono ?_
        rintro r w9 ⟨rfl, hb9⟩
        go_wp2
        go_ret
        exact ⟨rfl, hB.trans (hb9.mono hB.size)⟩
    · obtain rfl : k = n := by omega
      have hz := hide (all_zn hI.out)
      cases ha : allF zB f k
      · cases hw : anyF stB f k
        ·
          have e1 : (grS 2 f k == 0) = true := by unfold grS; rw [hI.out, ← hz.out, ha]; first | rfl | (rw [hw]; rfl)
          have e2 : (grE 2 f k == 16) = true := by unfold grE; rw [hI.out, ← hz.out]; first | (rw [ha]; first | rfl | (rw [hw]; rfl)) | (rw [hw]; rfl)
          go_wp2_with fail
          refine (awake_ok _ (unhide TT)).mono ?_
          rintro r w9 ⟨rfl, hb9⟩
          go_wp2
          go_ret
          exact ⟨rfl, hB.trans (hb9.mono hB.size)⟩
        ·
          have e1 : (grS 2 f k == 0) = true := by unfold grS; rw [hI.out, ← hz.out, ha]; first | rfl | (rw [hw]; rfl)
          have e2 : (grE 2 f k == 16) = true := by unfold grE; rw [hI.out, ← hz.out]; first | (rw [ha]; first | rfl | (rw [hw]; rfl)) | (rw [hw]; rfl)
          go_wp2_with fail
          refine (awake_ok _ (unhide TT)).mono ?_
          rintro r w9 ⟨rfl, hb9⟩
          go_wp2
          go_ret
          exact ⟨rfl, hB.trans (hb9.mono hB.size)⟩
      · cases hw : anyF stB f k
        ·
          have e1 : (grS 2 f k == 4) = true := by unfold grS; rw [hI.out, ← hz.out, ha]; first | rfl | (rw [hw]; rfl)
          have e2 : (grE 2 f k == 0) = true := by unfold grE; rw [hI.out, ← hz.out]; first | (rw [ha]; first | rfl | (rw [hw]; rfl)) | (rw [hw]; rfl)
          go_wp2_with fail
          refine (awake_ok _ (unhide TT)).mono ?_
          rintro r w9 ⟨rfl, hb9⟩
          go_wp2
          go_ret
          exact ⟨rfl, hB.trans (hb9.mono hB.size)⟩
        ·
          exact absurd (any_not_alone hw) (by rw [← hz.out, ha]; simp)

set_option maxHeartbeats 1000000 in
theorem grants_none_1 (a : Option Addr) (c : Nat) (w : World) (T : Tab w) : Calls Tryd.prog 5 #[.int .i64 1, .slice a 0 c] w fun r w' => r = .returned (.bool true) ∧ Below w.heap.size w w' := by
  have g := hide (show Calls Tryd.prog 25 #[.int .i64 1, .slice a 0 c] w fun r w' => r = .returned (.tuple #[.int .i64 2, .int .i64 0]) ∧ w = w' from granted_none_1 a c (fun _ => 0) w)
  have TT := hide T
  clear T
  go_enter Tryd.func5, Tryd.ntmps5
  go_wp2_with fail
  refine ((unhide g)).mono ?_
  rintro r w1 ⟨rfl, rfl⟩
  go_wp2
  refine wp_loop_rounds 1 ?_
  rw [rounds_succ]
  go_wp2_with fail
  refine (awake_ok _ (unhide TT)).mono ?_
  rintro r w9 ⟨rfl, hb9⟩
  go_wp2
  go_ret
  exact ⟨rfl, hb9⟩

set_option maxHeartbeats 1000000 in
theorem grants_none_2 (a : Option Addr) (c : Nat) (w : World) (T : Tab w) : Calls Tryd.prog 5 #[.int .i64 2, .slice a 0 c] w fun r w' => r = .returned (.bool true) ∧ Below w.heap.size w w' := by
  have g := hide (show Calls Tryd.prog 25 #[.int .i64 2, .slice a 0 c] w fun r w' => r = .returned (.tuple #[.int .i64 4, .int .i64 0]) ∧ w = w' from granted_none_2 a c (fun _ => 0) w)
  have TT := hide T
  clear T
  go_enter Tryd.func5, Tryd.ntmps5
  go_wp2_with fail
  refine ((unhide g)).mono ?_
  rintro r w1 ⟨rfl, rfl⟩
  go_wp2
  refine wp_loop_rounds 1 ?_
  rw [rounds_succ]
  go_wp2_with fail
  refine (awake_ok _ (unhide TT)).mono ?_
  rintro r w9 ⟨rfl, hb9⟩
  go_wp2
  go_ret
  exact ⟨rfl, hb9⟩

theorem grants_kind (kind : Int) (h1 : kind ≠ 1) (h2 : kind ≠ 2) (a : Option Addr) (n c : Nat) (hn : n ≤ 20) (w : World) (T : Tab w) : Calls Tryd.prog 5 #[.int .i64 kind, .slice a n c] w fun r w' => r = .returned (.bool true) ∧ Below w.heap.size w w' := by
  have e1 : (kind != 1) = true := by simpa using h1
  have e2 : (kind != 2) = true := by simpa using h2
  have g := hide (granted_kind kind h1 h2 (.slice a n c) (fun _ => 0) n w)
  have e3 : (grS kind (fun _ => 0) n == 0) = true := by unfold grS; rw [if_neg (by omega)]; rfl
  have e4 : (grE kind (fun _ => 0) n == 15) = true := by unfold grE; rw [if_neg (by omega)]; rfl
  have TT := hide T
  clear T h1 h2
  go_enter Tryd.func5, Tryd.ntmps5
  go_wp2_with fail
  refine ((unhide g)).mono ?_
  rintro r w1 ⟨rfl, rfl⟩
  go_wp2_with fail
  refine (awake_ok _ (unhide TT)).mono ?_
  rintro r w9 ⟨rfl, hb9⟩
  go_wp2
  go_ret
  exact ⟨rfl, hb9⟩
theorem grants_many (kind : Int) (a : Option Addr) (n c : Nat) (hn : 20 < n) (hm : n ≤ 9223372036854775807) (w : World) (T : Tab w) : Calls Tryd.prog 5 #[.int .i64 kind, .slice a n c] w fun r w' => r = .returned (.bool true) ∧ Below w.heap.size w w' := by
  have TT := hide T
  clear T
  go_enter Tryd.func5, Tryd.ntmps5
  go_wp2_with fail
  refine (awake_ok _ (unhide TT)).mono ?_
  rintro r w9 ⟨rfl, hb9⟩
  go_wp2
  go_ret
  exact ⟨rfl, hb9⟩
/-- What the laws are told of a slice of numbers that came in. -/
def In (w : World) (sv : Value) : Prop := ∃ a n c, sv = .slice a n c ∧ n ≤ maxLen ∧ ∃ f, Sl w sv n f
theorem grants_law (kind : Int) (sv : Value) (w : World) (T : Tab w) (h : In w sv) : Calls Tryd.prog 5 #[.int .i64 kind, sv] w fun r w' => r = .returned (.bool true) ∧ Below w.heap.size w w' := by
  obtain ⟨a, n, c, rfl, hm, f, hs⟩ := h
  unfold maxLen at hm
  by_cases hn : n ≤ 20
  · by_cases h1 : kind = 1
    · subst h1
      rcases hs with ⟨rfl, a', c', e⟩ | ⟨b, off, c', e, hb, hc⟩
      · exact grants_none_1 a c w T
      · cases e
        by_cases h0 : n = 0
        · subst h0; exact grants_none_1 _ c w T
        · exact grants_1 n hn (by omega) f b off c w T hb hc
    · by_cases h2 : kind = 2
      · subst h2
        rcases hs with ⟨rfl, a', c', e⟩ | ⟨b, off, c', e, hb, hc⟩
        · exact grants_none_2 a c w T
        · cases e
          by_cases h0 : n = 0
          · subst h0; exact grants_none_2 _ c w T
          · exact grants_2 n hn (by omega) f b off c w T hb hc
      · exact grants_kind kind h1 h2 a n c hn w T
  · exact grants_many kind a n c (by omega) (by omega) w T
end Go.Proofs.YtijhndmmljicmaaDoor
