/- Granted over a row of states, walked; the chapter's examples. -/
import Derived.Test.YtijhndmmljicmaaDoorF
import Derived.WalkKit
import Derived.WalkSpells
import Derived.ProofKit
import Derived.Outline
import Derived.Handy
import Derived.RowKit3
import Derived.BigQuiet
import Derived.Deep.QuietTactic
import Derived.Deep.RegionHeld3
import Derived.IntWalk
import Derived.LoopTactic
import Derived.OwnWalk
namespace Go.Proofs.YtijhndmmljicmaaDoor
open Go.RowKit
set_option linter.unusedVariables false
set_option maxRecDepth 100000

def nvB (s : Int) : Bool := !vaB s
theorem all_succ {p : Int → Bool} {f : Nat → Int} {k : Nat} : allF p f (k + 1) = (allF p f k && p (f k)) := rfl
theorem any_succ {p : Int → Bool} {f : Nat → Int} {k : Nat} : anyF p f (k + 1) = (anyF p f k || p (f k)) := rfl
theorem all_false {p : Int → Bool} {f : Nat → Int} {k n : Nat} (hk : k < n) (h : p (f k) = false) : allF p f n = false := by
  induction n with
  | zero => omega
  | succ n ih =>
    rw [all_succ]
    by_cases e : k = n
    · subst e; rw [h]; simp
    · rw [ih (by omega)]; rfl
/-- Which state a grant brings, and with which error. -/
def grS (kind : Int) (f : Nat → Int) (n : Nat) : Int :=
  if kind = 1 ∨ kind = 2 then (if allF isB f n then (if kind = 2 then (if allF nvB f n then 4 else 0) else (if anyF stB f n then 0 else if allF nvB f n then 2 else 1)) else 0) else 0
def grE (kind : Int) (f : Nat → Int) (n : Nat) : Int :=
  if kind = 1 ∨ kind = 2 then (if allF isB f n then (if kind = 2 then (if allF nvB f n then 0 else 16) else (if anyF stB f n then 16 else 0)) else 10) else 15
theorem ret_two {a b a' b' : Int} (h : a = a') (h' : b = b') : Ending.returned (.tuple #[.int .i64 a, .int .i64 b]) = .returned (.tuple #[.int .i64 a', .int .i64 b']) := by rw [h, h']
def GrRel (n : Nat) (f : Nat → Int) (w : World) (v6 v7 v18 : Value) (wr : World) : Prop :=
  ∃ k : Nat, k ≤ n ∧ v18 = .int .i64 k ∧ v6 = .bool (allF nvB f k) ∧ v7 = .bool (anyF stB f k) ∧ allF isB f k = true ∧ Below w.heap.size w wr

set_option maxHeartbeats 4000000 in
theorem granted_1 (n : Nat) (hn : n ≤ 1000) (f : Nat → Int) (b off c : Nat) (w : World) (T : Tab w) (hb : b < w.heap.size) (hc : ∀ j, j < n → w.cell? ⟨b, off + j, none⟩ = some (.int .i64 (f j))) :
    Calls Tryd.prog 25 #[.int .i64 1, .slice (some ⟨b, off, none⟩) n c] w fun r w' => r = .returned (.tuple #[.int .i64 (grS 1 f n), .int .i64 (grE 1 f n)]) ∧ Below w.heap.size w w' := by
  replace hc := hide hc
  replace T := hide T
  go_enter Tryd.func25, Tryd.ntmps25
  go_wp2
  go_loopw [6, 7, 18] (fun v6 v7 v18 wr => GrRel n f w v6 v7 v18 wr) (fun _ _ v18 _ => n - (intOf v18).toNat)
  case atStart => exact ⟨0, Nat.zero_le _, rfl, rfl, rfl, rfl, Below.refl _ _⟩
  case round =>
    obtain ⟨k, hk, rfl, rfl, rfl, hI, hB⟩ := hrel
    replace hI := hide hI
    by_cases hlt : k < n
    · have hx : wr.cell? ⟨b, off + k, none⟩ = some (.int .i64 (f k)) := cell_next hB hb (hc.out k hlt)
      have TT := hide (Tab.next (unhide T) hB)
      by_cases h5 : 0 ≤ f k ∧ f k ≤ 4
      · rcases five h5 with hv | hv | hv | hv | hv
        · replace hv := hide hv
          clear h5
          cases ha : allF nvB f k
          · cases hw : anyF stB f k
            ·
              go_wp2_with fail
              refine (is_v (f k) true (by rw [hv.out]; decide) _).mono ?_
              rintro r w1 ⟨rfl, rfl⟩
              go_wp2_with fail
              refine (store_v (f k) false (by rw [hv.out]; decide) _ (unhide TT)).mono ?_
              rintro r w2 ⟨rfl, hb2⟩
              go_wp2
              go_roundw
              case rel => exact ⟨k + 1, by omega, int_eq (by omega), bool_eq (by rw [all_succ, show nvB (f k) = true from by rw [hv.out]; decide, ha]; rfl), bool_eq (by rw [any_succ, show stB (f k) = false from by rw [hv.out]; decide, hw]; rfl), by rw [all_succ, hI.out, show isB (f k) = true from by rw [hv.out]; decide]; rfl, hB.trans (hb2.mono hB.size)⟩
              case measure => simp [intOf]; omega
            ·
              go_wp2_with fail
              refine (is_v (f k) true (by rw [hv.out]; decide) _).mono ?_
              rintro r w1 ⟨rfl, rfl⟩
              go_wp2
              go_roundw
              case rel => exact ⟨k + 1, by omega, int_eq (by omega), bool_eq (by rw [all_succ, show nvB (f k) = true from by rw [hv.out]; decide, ha]; rfl), bool_eq (by rw [any_succ, show stB (f k) = false from by rw [hv.out]; decide, hw]; rfl), by rw [all_succ, hI.out, show isB (f k) = true from by rw [hv.out]; decide]; rfl, hB⟩
              case measure => simp [intOf]; omega
          · cases hw : anyF stB f k
            ·
              go_wp2_with fail
              refine (is_v (f k) true (by rw [hv.out]; decide) _).mono ?_
              rintro r w1 ⟨rfl, rfl⟩
              go_wp2_with fail
              refine (valid_v (f k) false (by rw [hv.out]; decide) _).mono ?_
              rintro r w1 ⟨rfl, rfl⟩
              go_wp2_with fail
              refine (store_v (f k) false (by rw [hv.out]; decide) _ (unhide TT)).mono ?_
              rintro r w2 ⟨rfl, hb2⟩
              go_wp2
              go_roundw
              case rel => exact ⟨k + 1, by omega, int_eq (by omega), bool_eq (by rw [all_succ, show nvB (f k) = true from by rw [hv.out]; decide, ha]; rfl), bool_eq (by rw [any_succ, show stB (f k) = false from by rw [hv.out]; decide, hw]; rfl), by rw [all_succ, hI.out, show isB (f k) = true from by rw [hv.out]; decide]; rfl, hB.trans (hb2.mono hB.size)⟩
              case measure => simp [intOf]; omega
            ·
              go_wp2_with fail
              refine (is_v (f k) true (by rw [hv.out]; decide) _).mono ?_
              rintro r w1 ⟨rfl, rfl⟩
              go_wp2_with fail
              refine (valid_v (f k) false (by rw [hv.out]; decide) _).mono ?_
              rintro r w1 ⟨rfl, rfl⟩
              go_wp2
              go_roundw
              case rel => exact ⟨k + 1, by omega, int_eq (by omega), bool_eq (by rw [all_succ, show nvB (f k) = true from by rw [hv.out]; decide, ha]; rfl), bool_eq (by rw [any_succ, show stB (f k) = false from by rw [hv.out]; decide, hw]; rfl), by rw [all_succ, hI.out, show isB (f k) = true from by rw [hv.out]; decide]; rfl, hB⟩
              case measure => simp [intOf]; omega
        · replace hv := hide hv
          clear h5
          cases ha : allF nvB f k
          · cases hw : anyF stB f k
            ·
              go_wp2_with fail
              refine (is_v (f k) true (by rw [hv.out]; decide) _).mono ?_
              rintro r w1 ⟨rfl, rfl⟩
              go_wp2_with fail
              refine (store_v (f k) false (by rw [hv.out]; decide) _ (unhide TT)).mono ?_
              rintro r w2 ⟨rfl, hb2⟩
              go_wp2
              go_roundw
              case rel => exact ⟨k + 1, by omega, int_eq (by omega), bool_eq (by rw [all_succ, show nvB (f k) = false from by rw [hv.out]; decide, ha]; rfl), bool_eq (by rw [any_succ, show stB (f k) = false from by rw [hv.out]; decide, hw]; rfl), by rw [all_succ, hI.out, show isB (f k) = true from by rw [hv.out]; decide]; rfl, hB.trans (hb2.mono hB.size)⟩
              case measure => simp [intOf]; omega
            ·
              go_wp2_with fail
              refine (is_v (f k) true (by rw [hv.out]; decide) _).mono ?_
              rintro r w1 ⟨rfl, rfl⟩
              go_wp2
              go_roundw
              case rel => exact ⟨k + 1, by omega, int_eq (by omega), bool_eq (by rw [all_succ, show nvB (f k) = false from by rw [hv.out]; decide, ha]; rfl), bool_eq (by rw [any_succ, show stB (f k) = false from by rw [hv.out]; decide, hw]; rfl), by rw [all_succ, hI.out, show isB (f k) = true from by rw [hv.out]; decide]; rfl, hB⟩
              case measure => simp [intOf]; omega
          · cases hw : anyF stB f k
            ·
              go_wp2_with fail
              refine (is_v (f k) true (by rw [hv.out]; decide) _).mono ?_
              rintro r w1 ⟨rfl, rfl⟩
              go_wp2_with fail
              refine (valid_v (f k) true (by rw [hv.out]; decide) _).mono ?_
              rintro r w1 ⟨rfl, rfl⟩
              go_wp2_with fail
              refine (store_v (f k) false (by rw [hv.out]; decide) _ (unhide TT)).mono ?_
              rintro r w2 ⟨rfl, hb2⟩
              go_wp2
              go_roundw
              case rel => exact ⟨k + 1, by omega, int_eq (by omega), bool_eq (by rw [all_succ, show nvB (f k) = false from by rw [hv.out]; decide, ha]; rfl), bool_eq (by rw [any_succ, show stB (f k) = false from by rw [hv.out]; decide, hw]; rfl), by rw [all_succ, hI.out, show isB (f k) = true from by rw [hv.out]; decide]; rfl, hB.trans (hb2.mono hB.size)⟩
              case measure => simp [intOf]; omega
            ·
              go_wp2_with fail
              refine (is_v (f k) true (by rw [hv.out]; decide) _).mono ?_
              rintro r w1 ⟨rfl, rfl⟩
              go_wp2_with fail
              refine (valid_v (f k) true (by rw [hv.out]; decide) _).mono ?_
              rintro r w1 ⟨rfl, rfl⟩
              go_wp2
              go_roundw
              case rel => exact ⟨k + 1, by omega, int_eq (by omega), bool_eq (by rw [all_succ, show nvB (f k) = false from by rw [hv.out]; decide, ha]; rfl), bool_eq (by rw [any_succ, show stB (f k) = false from by rw [hv.out]; decide, hw]; rfl), by rw [all_succ, hI.out, show isB (f k) = true from by rw [hv.out]; decide]; rfl, hB⟩
              case measure => simp [intOf]; omega
        · replace hv := hide hv
          clear h5
          cases ha : allF nvB f k
          · cases hw : anyF stB f k
            ·
              go_wp2_with fail
              refine (is_v (f k) true (by rw [hv.out]; decide) _).mono ?_
              rintro r w1 ⟨rfl, rfl⟩
              go_wp2_with fail
              refine (store_v (f k) true (by rw [hv.out]; decide) _ (unhide TT)).mono ?_
              rintro r w2 ⟨rfl, hb2⟩
              go_wp2
              go_roundw
              case rel => exact ⟨k + 1, by omega, int_eq (by omega), bool_eq (by rw [all_succ, show nvB (f k) = false from by rw [hv.out]; decide, ha]; rfl), bool_eq (by rw [any_succ, show stB (f k) = true from by rw [hv.out]; decide, hw]; rfl), by rw [all_succ, hI.out, show isB (f k) = true from by rw [hv.out]; decide]; rfl, hB.trans (hb2.mono hB.size)⟩
              case measure => simp [intOf]; omega
            ·
              go_wp2_with fail
              refine (is_v (f k) true (by rw [hv.out]; decide) _).mono ?_
              rintro r w1 ⟨rfl, rfl⟩
              go_wp2
              go_roundw
              case rel => exact ⟨k + 1, by omega, int_eq (by omega), bool_eq (by rw [all_succ, show nvB (f k) = false from by rw [hv.out]; decide, ha]; rfl), bool_eq (by rw [any_succ, show stB (f k) = true from by rw [hv.out]; decide, hw]; rfl), by rw [all_succ, hI.out, show isB (f k) = true from by rw [hv.out]; decide]; rfl, hB⟩
              case measure => simp [intOf]; omega
          · cases hw : anyF stB f k
            ·
              go_wp2_with fail
              refine (is_v (f k) true (by rw [hv.out]; decide) _).mono ?_
              rintro r w1 ⟨rfl, rfl⟩
              go_wp2_with fail
              refine (valid_v (f k) true (by rw [hv.out]; decide) _).mono ?_
              rintro r w1 ⟨rfl, rfl⟩
              go_wp2_with fail
              refine (store_v (f k) true (by rw [hv.out]; decide) _ (unhide TT)).mono ?_
              rintro r w2 ⟨rfl, hb2⟩
              go_wp2
              go_roundw
              case rel => exact ⟨k + 1, by omega, int_eq (by omega), bool_eq (by rw [all_succ, show nvB (f k) = false from by rw [hv.out]; decide, ha]; rfl), bool_eq (by rw [any_succ, show stB (f k) = true from by rw [hv.out]; decide, hw]; rfl), by rw [all_succ, hI.out, show isB (f k) = true from by rw [hv.out]; decide]; rfl, hB.trans (hb2.mono hB.size)⟩
              case measure => simp [intOf]; omega
            ·
              go_wp2_with fail
              refine (is_v (f k) true (by rw [hv.out]; decide) _).mono ?_
              rintro r w1 ⟨rfl, rfl⟩
              go_wp2_with fail
              refine (valid_v (f k) true (by rw [hv.out]; decide) _).mono ?_
              rintro r w1 ⟨rfl, rfl⟩
              go_wp2
              go_roundw
              case rel => exact ⟨k + 1, by omega, int_eq (by omega), bool_eq (by rw [all_succ, show nvB (f k) = false from by rw [hv.out]; decide, ha]; rfl), bool_eq (by rw [any_succ, show stB (f k) = true from by rw [hv.out]; decide, hw]; rfl), by rw [all_succ, hI.out, show isB (f k) = true from by rw [hv.out]; decide]; rfl, hB⟩
              case measure => simp [intOf]; omega
        · replace hv := hide hv
          clear h5
          cases ha : allF nvB f k
          · cases hw : anyF stB f k
            ·
              go_wp2_with fail
              refine (is_v (f k) true (by rw [hv.out]; decide) _).mono ?_
              rintro r w1 ⟨rfl, rfl⟩
              go_wp2_with fail
              refine (store_v (f k) false (by rw [hv.out]; decide) _ (unhide TT)).mono ?_
              rintro r w2 ⟨rfl, hb2⟩
              go_wp2
              go_roundw
              case rel => exact ⟨k + 1, by omega, int_eq (by omega), bool_eq (by rw [all_succ, show nvB (f k) = false from by rw [hv.out]; decide, ha]; rfl), bool_eq (by rw [any_succ, show stB (f k) = false from by rw [hv.out]; decide, hw]; rfl), by rw [all_succ, hI.out, show isB (f k) = true from by rw [hv.out]; decide]; rfl, hB.trans (hb2.mono hB.size)⟩
              case measure => simp [intOf]; omega
            ·
              go_wp2_with fail
              refine (is_v (f k) true (by rw [hv.out]; decide) _).mono ?_
              rintro r w1 ⟨rfl, rfl⟩
              go_wp2
              go_roundw
              case rel => exact ⟨k + 1, by omega, int_eq (by omega), bool_eq (by rw [all_succ, show nvB (f k) = false from by rw [hv.out]; decide, ha]; rfl), bool_eq (by rw [any_succ, show stB (f k) = false from by rw [hv.out]; decide, hw]; rfl), by rw [all_succ, hI.out, show isB (f k) = true from by rw [hv.out]; decide]; rfl, hB⟩
              case measure => simp [intOf]; omega
          · cases hw : anyF stB f k
            ·
              go_wp2_with fail
              refine (is_v (f k) true (by rw [hv.out]; decide) _).mono ?_
              rintro r w1 ⟨rfl, rfl⟩
              go_wp2_with fail
              refine (valid_v (f k) true (by rw [hv.out]; decide) _).mono ?_
              rintro r w1 ⟨rfl, rfl⟩
              go_wp2_with fail
              refine (store_v (f k) false (by rw [hv.out]; decide) _ (unhide TT)).mono ?_
              rintro r w2 ⟨rfl, hb2⟩
              go_wp2
              go_roundw
              case rel => exact ⟨k + 1, by omega, int_eq (by omega), bool_eq (by rw [all_succ, show nvB (f k) = false from by rw [hv.out]; decide, ha]; rfl), bool_eq (by rw [any_succ, show stB (f k) = false from by rw [hv.out]; decide, hw]; rfl), by rw [all_succ, hI.out, show isB (f k) = true from by rw [hv.out]; decide]; rfl, hB.trans (hb2.mono hB.size)⟩
              case measure => simp [intOf]; omega
            ·
              go_wp2_with fail
              refine (is_v (f k) true (by rw [hv.out]; decide) _).mono ?_
              rintro r w1 ⟨rfl, rfl⟩
              go_wp2_with fail
              refine (valid_v (f k) true (by rw [hv.out]; decide) _).mono ?_
              rintro r w1 ⟨rfl, rfl⟩
              go_wp2
              go_roundw
              case rel => exact ⟨k + 1, by omega, int_eq (by omega), bool_eq (by rw [all_succ, show nvB (f k) = false from by rw [hv.out]; decide, ha]; rfl), bool_eq (by rw [any_succ, show stB (f k) = false from by rw [hv.out]; decide, hw]; rfl), by rw [all_succ, hI.out, show isB (f k) = true from by rw [hv.out]; decide]; rfl, hB⟩
              case measure => simp [intOf]; omega
        · replace hv := hide hv
          clear h5
          cases ha : allF nvB f k
          · cases hw : anyF stB f k
            ·
              go_wp2_with fail
              refine (is_v (f k) true (by rw [hv.out]; decide) _).mono ?_
              rintro r w1 ⟨rfl, rfl⟩
              go_wp2_with fail
              refine (store_v (f k) true (by rw [hv.out]; decide) _ (unhide TT)).mono ?_
              rintro r w2 ⟨rfl, hb2⟩
              go_wp2
              go_roundw
              case rel => exact ⟨k + 1, by omega, int_eq (by omega), bool_eq (by rw [all_succ, show nvB (f k) = false from by rw [hv.out]; decide, ha]; rfl), bool_eq (by rw [any_succ, show stB (f k) = true from by rw [hv.out]; decide, hw]; rfl), by rw [all_succ, hI.out, show isB (f k) = true from by rw [hv.out]; decide]; rfl, hB.trans (hb2.mono hB.size)⟩
              case measure => simp [intOf]; omega
            ·
              go_wp2_with fail
              refine (is_v (f k) true (by rw [hv.out]; decide) _).mono ?_
              rintro r w1 ⟨rfl, rfl⟩
              go_wp2
              go_roundw
              case rel => exact ⟨k + 1, by omega, int_eq (by omega), bool_eq (by rw [all_succ, show nvB (f k) = false from by rw [hv.out]; decide, ha]; rfl), bool_eq (by rw [any_succ, show stB (f k) = true from by rw [hv.out]; decide, hw]; rfl), by rw [all_succ, hI.out, show isB (f k) = true from by rw [hv.out]; decide]; rfl, hB⟩
              case measure => simp [intOf]; omega
          · cases hw : anyF stB f k
            ·
              go_wp2_with fail
              refine (is_v (f k) true (by rw [hv.out]; decide) _).mono ?_
              rintro r w1 ⟨rfl, rfl⟩
              go_wp2_with fail
              refine (valid_v (f k) true (by rw [hv.out]; decide) _).mono ?_
              rintro r w1 ⟨rfl, rfl⟩
              go_wp2_with fail
              refine (store_v (f k) true (by rw [hv.out]; decide) _ (unhide TT)).mono ?_
              rintro r w2 ⟨rfl, hb2⟩
              go_wp2
              go_roundw
              case rel => exact ⟨k + 1, by omega, int_eq (by omega), bool_eq (by rw [all_succ, show nvB (f k) = false from by rw [hv.out]; decide, ha]; rfl), bool_eq (by rw [any_succ, show stB (f k) = true from by rw [hv.out]; decide, hw]; rfl), by rw [all_succ, hI.out, show isB (f k) = true from by rw [hv.out]; decide]; rfl, hB.trans (hb2.mono hB.size)⟩
              case measure => simp [intOf]; omega
            ·
              go_wp2_with fail
              refine (is_v (f k) true (by rw [hv.out]; decide) _).mono ?_
              rintro r w1 ⟨rfl, rfl⟩
              go_wp2_with fail
              refine (valid_v (f k) true (by rw [hv.out]; decide) _).mono ?_
              rintro r w1 ⟨rfl, rfl⟩
              go_wp2
              go_roundw
              case rel => exact ⟨k + 1, by omega, int_eq (by omega), bool_eq (by rw [all_succ, show nvB (f k) = false from by rw [hv.out]; decide, ha]; rfl), bool_eq (by rw [any_succ, show stB (f k) = true from by rw [hv.out]; decide, hw]; rfl), by rw [all_succ, hI.out, show isB (f k) = true from by rw [hv.out]; decide]; rfl, hB⟩
              case measure => simp [intOf]; omega
      · have hi : isB (f k) = false := by unfold isB; simpa using h5
        replace hi := hide hi
        replace h5 := hide h5
        go_wp2_with fail
        refine (is_v (f k) false hi.out _).mono ?_
        rintro r w1 ⟨rfl, rfl⟩
        go_wp2
        go_ret2
        exact ⟨ret_two (by simp [grS, all_false hlt hi.out]) (by simp [grE, all_false hlt hi.out]), hB⟩
    · obtain rfl : k = n := by omega
      clear hc T
      cases ha : allF nvB f k
      · cases hw : anyF stB f k
        · go_wp2
          go_ret2
          exact ⟨ret_two (by unfold grS; rw [hI.out]; try rw [ha]; try rw [hw]; rfl) (by unfold grE; rw [hI.out]; try rw [ha]; try rw [hw]; rfl), hB⟩
        · go_wp2
          go_ret2
          exact ⟨ret_two (by unfold grS; rw [hI.out]; try rw [ha]; try rw [hw]; rfl) (by unfold grE; rw [hI.out]; try rw [ha]; try rw [hw]; rfl), hB⟩
      · cases hw : anyF stB f k
        · go_wp2
          go_ret2
          exact ⟨ret_two (by unfold grS; rw [hI.out]; try rw [ha]; try rw [hw]; rfl) (by unfold grE; rw [hI.out]; try rw [ha]; try rw [hw]; rfl), hB⟩
        · go_wp2
          go_ret2
          exact ⟨ret_two (by unfold grS; rw [hI.out]; try rw [ha]; try rw [hw]; rfl) (by unfold grE; rw [hI.out]; try rw [ha]; try rw [hw]; rfl), hB⟩
theorem granted_none_1 (a : Option Addr) (c : Nat) (f : Nat → Int) (w : World) : Calls Tryd.prog 25 #[.int .i64 1, .slice a 0 c] w fun r w' => r = .returned (.tuple #[.int .i64 (grS 1 f 0), .int .i64 (grE 1 f 0)]) ∧ w = w' := by
  go_enter Tryd.func25, Tryd.ntmps25
  go_wp2
  refine wp_loop_rounds 1 ?_
  rw [rounds_succ]
  go_wp2
  go_ret2
  exact ⟨rfl, rfl⟩

set_option maxHeartbeats 4000000 in
theorem granted_2 (n : Nat) (hn : n ≤ 1000) (f : Nat → Int) (b off c : Nat) (w : World) (T : Tab w) (hb : b < w.heap.size) (hc : ∀ j, j < n → w.cell? ⟨b, off + j, none⟩ = some (.int .i64 (f j))) :
    Calls Tryd.prog 25 #[.int .i64 2, .slice (some ⟨b, off, none⟩) n c] w fun r w' => r = .returned (.tuple #[.int .i64 (grS 2 f n), .int .i64 (grE 2 f n)]) ∧ Below w.heap.size w w' := by
  replace hc := hide hc
  replace T := hide T
  go_enter Tryd.func25, Tryd.ntmps25
  go_wp2
  go_loopw [6, 7, 18] (fun v6 v7 v18 wr => GrRel n f w v6 v7 v18 wr) (fun _ _ v18 _ => n - (intOf v18).toNat)
  case atStart => exact ⟨0, Nat.zero_le _, rfl, rfl, rfl, rfl, Below.refl _ _⟩
  case round =>
    obtain ⟨k, hk, rfl, rfl, rfl, hI, hB⟩ := hrel
    replace hI := hide hI
    by_cases hlt : k < n
    · have hx : wr.cell? ⟨b, off + k, none⟩ = some (.int .i64 (f k)) := cell_next hB hb (hc.out k hlt)
      have TT := hide (Tab.next (unhide T) hB)
      by_cases h5 : 0 ≤ f k ∧ f k ≤ 4
      · rcases five h5 with hv | hv | hv | hv | hv
        · replace hv := hide hv
          clear h5
          cases ha : allF nvB f k
          · cases hw : anyF stB f k
            ·
              go_wp2_with fail
              refine (is_v (f k) true (by rw [hv.out]; decide) _).mono ?_
              rintro r w1 ⟨rfl, rfl⟩
              go_wp2_with fail
              refine (store_v (f k) false (by rw [hv.out]; decide) _ (unhide TT)).mono ?_
              rintro r w2 ⟨rfl, hb2⟩
              go_wp2
              go_roundw
              case rel => exact ⟨k + 1, by omega, int_eq (by omega), bool_eq (by rw [all_succ, show nvB (f k) = true from by rw [hv.out]; decide, ha]; rfl), bool_eq (by rw [any_succ, show stB (f k) = false from by rw [hv.out]; decide, hw]; rfl), by rw [all_succ, hI.out, show isB (f k) = true from by rw [hv.out]; decide]; rfl, hB.trans (hb2.mono hB.size)⟩
              case measure => simp [intOf]; omega
            ·
              go_wp2_with fail
              refine (is_v (f k) true (by rw [hv.out]; decide) _).mono ?_
              rintro r w1 ⟨rfl, rfl⟩
              go_wp2
              go_roundw
              case rel => exact ⟨k + 1, by omega, int_eq (by omega), bool_eq (by rw [all_succ, show nvB (f k) = true from by rw [hv.out]; decide, ha]; rfl), bool_eq (by rw [any_succ, show stB (f k) = false from by rw [hv.out]; decide, hw]; rfl), by rw [all_succ, hI.out, show isB (f k) = true from by rw [hv.out]; decide]; rfl, hB⟩
              case measure => simp [intOf]; omega
          · cases hw : anyF stB f k
            ·
              go_wp2_with fail
              refine (is_v (f k) true (by rw [hv.out]; decide) _).mono ?_
              rintro r w1 ⟨rfl, rfl⟩
              go_wp2_with fail
              refine (valid_v (f k) false (by rw [hv.out]; decide) _).mono ?_
              rintro r w1 ⟨rfl, rfl⟩
              go_wp2_with fail
              refine (store_v (f k) false (by rw [hv.out]; decide) _ (unhide TT)).mono ?_
              rintro r w2 ⟨rfl, hb2⟩
              go_wp2
              go_roundw
              case rel => exact ⟨k + 1, by omega, int_eq (by omega), bool_eq (by rw [all_succ, show nvB (f k) = true from by rw [hv.out]; decide, ha]; rfl), bool_eq (by rw [any_succ, show stB (f k) = false from by rw [hv.out]; decide, hw]; rfl), by rw [all_succ, hI.out, show isB (f k) = true from by rw [hv.out]; decide]; rfl, hB.trans (hb2.mono hB.size)⟩
              case measure => simp [intOf]; omega
            ·
              go_wp2_with fail
              refine (is_v (f k) true (by rw [hv.out]; decide) _).mono ?_
              rintro r w1 ⟨rfl, rfl⟩
              go_wp2_with fail
              refine (valid_v (f k) false (by rw [hv.out]; decide) _).mono ?_
              rintro r w1 ⟨rfl, rfl⟩
              go_wp2
              go_roundw
              case rel => exact ⟨k + 1, by omega, int_eq (by omega), bool_eq (by rw [all_succ, show nvB (f k) = true from by rw [hv.out]; decide, ha]; rfl), bool_eq (by rw [any_succ, show stB (f k) = false from by rw [hv.out]; decide, hw]; rfl), by rw [all_succ, hI.out, show isB (f k) = true from by rw [hv.out]; decide]; rfl, hB⟩
              case measure => simp [intOf]; omega
        · replace hv := hide hv
          clear h5
          cases ha : allF nvB f k
          · cases hw : anyF stB f k
            ·
              go_wp2_with fail
              refine (is_v (f k) true (by rw [hv.out]; decide) _).mono ?_
              rintro r w1 ⟨rfl, rfl⟩
              go_wp2_with fail
              refine (store_v (f k) false (by rw [hv.out]; decide) _ (unhide TT)).mono ?_
              rintro r w2 ⟨rfl, hb2⟩
              go_wp2
              go_roundw
              case rel => exact ⟨k + 1, by omega, int_eq (by omega), bool_eq (by rw [all_succ, show nvB (f k) = false from by rw [hv.out]; decide, ha]; rfl), bool_eq (by rw [any_succ, show stB (f k) = false from by rw [hv.out]; decide, hw]; rfl), by rw [all_succ, hI.out, show isB (f k) = true from by rw [hv.out]; decide]; rfl, hB.trans (hb2.mono hB.size)⟩
              case measure => simp [intOf]; omega
            ·
              go_wp2_with fail
              refine (is_v (f k) true (by rw [hv.out]; decide) _).mono ?_
              rintro r w1 ⟨rfl, rfl⟩
              go_wp2
              go_roundw
              case rel => exact ⟨k + 1, by omega, int_eq (by omega), bool_eq (by rw [all_succ, show nvB (f k) = false from by rw [hv.out]; decide, ha]; rfl), bool_eq (by rw [any_succ, show stB (f k) = false from by rw [hv.out]; decide, hw]; rfl), by rw [all_succ, hI.out, show isB (f k) = true from by rw [hv.out]; decide]; rfl, hB⟩
              case measure => simp [intOf]; omega
          · cases hw : anyF stB f k
            ·
              go_wp2_with fail
              refine (is_v (f k) true (by rw [hv.out]; decide) _).mono ?_
              rintro r w1 ⟨rfl, rfl⟩
              go_wp2_with fail
              refine (valid_v (f k) true (by rw [hv.out]; decide) _).mono ?_
              rintro r w1 ⟨rfl, rfl⟩
              go_wp2_with fail
              refine (store_v (f k) false (by rw [hv.out]; decide) _ (unhide TT)).mono ?_
              rintro r w2 ⟨rfl, hb2⟩
              go_wp2
              go_roundw
              case rel => exact ⟨k + 1, by omega, int_eq (by omega), bool_eq (by rw [all_succ, show nvB (f k) = false from by rw [hv.out]; decide, ha]; rfl), bool_eq (by rw [any_succ, show stB (f k) = false from by rw [hv.out]; decide, hw]; rfl), by rw [all_succ, hI.out, show isB (f k) = true from by rw [hv.out]; decide]; rfl, hB.trans (hb2.mono hB.size)⟩
              case measure => simp [intOf]; omega
            ·
              go_wp2_with fail
              refine (is_v (f k) true (by rw [hv.out]; decide) _).mono ?_
              rintro r w1 ⟨rfl, rfl⟩
              go_wp2_with fail
              refine (valid_v (f k) true (by rw [hv.out]; decide) _).mono ?_
              rintro r w1 ⟨rfl, rfl⟩
              go_wp2
              go_roundw
              case rel => exact ⟨k + 1, by omega, int_eq (by omega), bool_eq (by rw [all_succ, show nvB (f k) = false from by rw [hv.out]; decide, ha]; rfl), bool_eq (by rw [any_succ, show stB (f k) = false from by rw [hv.out]; decide, hw]; rfl), by rw [all_succ, hI.out, show isB (f k) = true from by rw [hv.out]; decide]; rfl, hB⟩
              case measure => simp [intOf]; omega
        · replace hv := hide hv
          clear h5
          cases ha : allF nvB f k
          · cases hw : anyF stB f k
            ·
              go_wp2_with fail
              refine (is_v (f k) true (by rw [hv.out]; decide) _).mono ?_
              rintro r w1 ⟨rfl, rfl⟩
              go_wp2_with fail
              refine (store_v (f k) true (by rw [hv.out]; decide) _ (unhide TT)).mono ?_
              rintro r w2 ⟨rfl, hb2⟩
              go_wp2
              go_roundw
              case rel => exact ⟨k + 1, by omega, int_eq (by omega), bool_eq (by rw [all_succ, show nvB (f k) = false from by rw [hv.out]; decide, ha]; rfl), bool_eq (by rw [any_succ, show stB (f k) = true from by rw [hv.out]; decide, hw]; rfl), by rw [all_succ, hI.out, show isB (f k) = true from by rw [hv.out]; decide]; rfl, hB.trans (hb2.mono hB.size)⟩
              case measure => simp [intOf]; omega
            ·
              go_wp2_with fail
              refine (is_v (f k) true (by rw [hv.out]; decide) _).mono ?_
              rintro r w1 ⟨rfl, rfl⟩
              go_wp2
              go_roundw
              case rel => exact ⟨k + 1, by omega, int_eq (by omega), bool_eq (by rw [all_succ, show nvB (f k) = false from by rw [hv.out]; decide, ha]; rfl), bool_eq (by rw [any_succ, show stB (f k) = true from by rw [hv.out]; decide, hw]; rfl), by rw [all_succ, hI.out, show isB (f k) = true from by rw [hv.out]; decide]; rfl, hB⟩
              case measure => simp [intOf]; omega
          · cases hw : anyF stB f k
            ·
              go_wp2_with fail
              refine (is_v (f k) true (by rw [hv.out]; decide) _).mono ?_
              rintro r w1 ⟨rfl, rfl⟩
              go_wp2_with fail
              refine (valid_v (f k) true (by rw [hv.out]; decide) _).mono ?_
              rintro r w1 ⟨rfl, rfl⟩
              go_wp2_with fail
              refine (store_v (f k) true (by rw [hv.out]; decide) _ (unhide TT)).mono ?_
              rintro r w2 ⟨rfl, hb2⟩
              go_wp2
              go_roundw
              case rel => exact ⟨k + 1, by omega, int_eq (by omega), bool_eq (by rw [all_succ, show nvB (f k) = false from by rw [hv.out]; decide, ha]; rfl), bool_eq (by rw [any_succ, show stB (f k) = true from by rw [hv.out]; decide, hw]; rfl), by rw [all_succ, hI.out, show isB (f k) = true from by rw [hv.out]; decide]; rfl, hB.trans (hb2.mono hB.size)⟩
              case measure => simp [intOf]; omega
            ·
              go_wp2_with fail
              refine (is_v (f k) true (by rw [hv.out]; decide) _).mono ?_
              rintro r w1 ⟨rfl, rfl⟩
              go_wp2_with fail
              refine (valid_v (f k) true (by rw [hv.out]; decide) _).mono ?_
              rintro r w1 ⟨rfl, rfl⟩
              go_wp2
              go_roundw
              case rel => exact ⟨k + 1, by omega, int_eq (by omega), bool_eq (by rw [all_succ, show nvB (f k) = false from by rw [hv.out]; decide, ha]; rfl), bool_eq (by rw [any_succ, show stB (f k) = true from by rw [hv.out]; decide, hw]; rfl), by rw [all_succ, hI.out, show isB (f k) = true from by rw [hv.out]; decide]; rfl, hB⟩
              case measure => simp [intOf]; omega
        · replace hv := hide hv
          clear h5
          cases ha : allF nvB f k
          · cases hw : anyF stB f k
            ·
              go_wp2_with fail
              refine (is_v (f k) true (by rw [hv.out]; decide) _).mono ?_
              rintro r w1 ⟨rfl, rfl⟩
              go_wp2_with fail
              refine (store_v (f k) false (by rw [hv.out]; decide) _ (unhide TT)).mono ?_
              rintro r w2 ⟨rfl, hb2⟩
              go_wp2
              go_roundw
              case rel => exact ⟨k + 1, by omega, int_eq (by omega), bool_eq (by rw [all_succ, show nvB (f k) = false from by rw [hv.out]; decide, ha]; rfl), bool_eq (by rw [any_succ, show stB (f k) = false from by rw [hv.out]; decide, hw]; rfl), by rw [all_succ, hI.out, show isB (f k) = true from by rw [hv.out]; decide]; rfl, hB.trans (hb2.mono hB.size)⟩
              case measure => simp [intOf]; omega
            ·
              go_wp2_with fail
              refine (is_v (f k) true (by rw [hv.out]; decide) _).mono ?_
              rintro r w1 ⟨rfl, rfl⟩
              go_wp2
              go_roundw
              case rel => exact ⟨k + 1, by omega, int_eq (by omega), bool_eq (by rw [all_succ, show nvB (f k) = false from by rw [hv.out]; decide, ha]; rfl), bool_eq (by rw [any_succ, show stB (f k) = false from by rw [hv.out]; decide, hw]; rfl), by rw [all_succ, hI.out, show isB (f k) = true from by rw [hv.out]; decide]; rfl, hB⟩
              case measure => simp [intOf]; omega
          · cases hw : anyF stB f k
            ·
              go_wp2_with fail
              refine (is_v (f k) true (by rw [hv.out]; decide) _).mono ?_
              rintro r w1 ⟨rfl, rfl⟩
              go_wp2_with fail
              refine (valid_v (f k) true (by rw [hv.out]; decide) _).mono ?_
              rintro r w1 ⟨rfl, rfl⟩
              go_wp2_with fail
              refine (store_v (f k) false (by rw [hv.out]; decide) _ (unhide TT)).mono ?_
              rintro r w2 ⟨rfl, hb2⟩
              go_wp2
              go_roundw
              case rel => exact ⟨k + 1, by omega, int_eq (by omega), bool_eq (by rw [all_succ, show nvB (f k) = false from by rw [hv.out]; decide, ha]; rfl), bool_eq (by rw [any_succ, show stB (f k) = false from by rw [hv.out]; decide, hw]; rfl), by rw [all_succ, hI.out, show isB (f k) = true from by rw [hv.out]; decide]; rfl, hB.trans (hb2.mono hB.size)⟩
              case measure => simp [intOf]; omega
            ·
              go_wp2_with fail
              refine (is_v (f k) true (by rw [hv.out]; decide) _).mono ?_
              rintro r w1 ⟨rfl, rfl⟩
              go_wp2_with fail
              refine (valid_v (f k) true (by rw [hv.out]; decide) _).mono ?_
              rintro r w1 ⟨rfl, rfl⟩
              go_wp2
              go_roundw
              case rel => exact ⟨k + 1, by omega, int_eq (by omega), bool_eq (by rw [all_succ, show nvB (f k) = false from by rw [hv.out]; decide, ha]; rfl), bool_eq (by rw [any_succ, show stB (f k) = false from by rw [hv.out]; decide, hw]; rfl), by rw [all_succ, hI.out, show isB (f k) = true from by rw [hv.out]; decide]; rfl, hB⟩
              case measure => simp [intOf]; omega
        · replace hv := hide hv
          clear h5
          cases ha : allF nvB f k
          · cases hw : anyF stB f k
            ·
              go_wp2_with fail
              refine (is_v (f k) true (by rw [hv.out]; decide) _).mono ?_
              rintro r w1 ⟨rfl, rfl⟩
              go_wp2_with fail
              refine (store_v (f k) true (by rw [hv.out]; decide) _ (unhide TT)).mono ?_
              rintro r w2 ⟨rfl, hb2⟩
              go_wp2
              go_roundw
              case rel => exact ⟨k + 1, by omega, int_eq (by omega), bool_eq (by rw [all_succ, show nvB (f k) = false from by rw [hv.out]; decide, ha]; rfl), bool_eq (by rw [any_succ, show stB (f k) = true from by rw [hv.out]; decide, hw]; rfl), by rw [all_succ, hI.out, show isB (f k) = true from by rw [hv.out]; decide]; rfl, hB.trans (hb2.mono hB.size)⟩
              case measure => simp [intOf]; omega
            ·
              go_wp2_with fail
              refine (is_v (f k) true (by rw [hv.out]; decide) _).mono ?_
              rintro r w1 ⟨rfl, rfl⟩
              go_wp2
              go_roundw
              case rel => exact ⟨k + 1, by omega, int_eq (by omega), bool_eq (by rw [all_succ, show nvB (f k) = false from by rw [hv.out]; decide, ha]; rfl), bool_eq (by rw [any_succ, show stB (f k) = true from by rw [hv.out]; decide, hw]; rfl), by rw [all_succ, hI.out, show isB (f k) = true from by rw [hv.out]; decide]; rfl, hB⟩
              case measure => simp [intOf]; omega
          · cases hw : anyF stB f k
            ·
              go_wp2_with fail
              refine (is_v (f k) true (by rw [hv.out]; decide) _).mono ?_
              rintro r w1 ⟨rfl, rfl⟩
              go_wp2_with fail
              refine (valid_v (f k) true (by rw [hv.out]; decide) _).mono ?_
              rintro r w1 ⟨rfl, rfl⟩
              go_wp2_with fail
              refine (store_v (f k) true (by rw [hv.out]; decide) _ (unhide TT)).mono ?_
              rintro r w2 ⟨rfl, hb2⟩
              go_wp2
              go_roundw
              case rel => exact ⟨k + 1, by omega, int_eq (by omega), bool_eq (by rw [all_succ, show nvB (f k) = false from by rw [hv.out]; decide, ha]; rfl), bool_eq (by rw [any_succ, show stB (f k) = true from by rw [hv.out]; decide, hw]; rfl), by rw [all_succ, hI.out, show isB (f k) = true from by rw [hv.out]; decide]; rfl, hB.trans (hb2.mono hB.size)⟩
              case measure => simp [intOf]; omega
            ·
              go_wp2_with fail
              refine (is_v (f k) true (by rw [hv.out]; decide) _).mono ?_
              rintro r w1 ⟨rfl, rfl⟩
              go_wp2_with fail
              refine (valid_v (f k) true (by rw [hv.out]; decide) _).mono ?_
              rintro r w1 ⟨rfl, rfl⟩
              go_wp2
              go_roundw
              case rel => exact ⟨k + 1, by omega, int_eq (by omega), bool_eq (by rw [all_succ, show nvB (f k) = false from by rw [hv.out]; decide, ha]; rfl), bool_eq (by rw [any_succ, show stB (f k) = true from by rw [hv.out]; decide, hw]; rfl), by rw [all_succ, hI.out, show isB (f k) = true from by rw [hv.out]; decide]; rfl, hB⟩
              case measure => simp [intOf]; omega
      · have hi : isB (f k) = false := by unfold isB; simpa using h5
        replace hi := hide hi
        replace h5 := hide h5
        go_wp2_with fail
        refine (is_v (f k) false hi.out _).mono ?_
        rintro r w1 ⟨rfl, rfl⟩
        go_wp2
        go_ret2
        exact ⟨ret_two (by simp [grS, all_false hlt hi.out]) (by simp [grE, all_false hlt hi.out]), hB⟩
    · obtain rfl : k = n := by omega
      clear hc T
      cases ha : allF nvB f k
      · cases hw : anyF stB f k
        · go_wp2
          go_ret2
          exact ⟨ret_two (by unfold grS; rw [hI.out]; try rw [ha]; try rw [hw]; rfl) (by unfold grE; rw [hI.out]; try rw [ha]; try rw [hw]; rfl), hB⟩
        · go_wp2
          go_ret2
          exact ⟨ret_two (by unfold grS; rw [hI.out]; try rw [ha]; try rw [hw]; rfl) (by unfold grE; rw [hI.out]; try rw [ha]; try rw [hw]; rfl), hB⟩
      · cases hw : anyF stB f k
        · go_wp2
          go_ret2
          exact ⟨ret_two (by unfold grS; rw [hI.out]; try rw [ha]; try rw [hw]; rfl) (by unfold grE; rw [hI.out]; try rw [ha]; try rw [hw]; rfl), hB⟩
        · go_wp2
          go_ret2
          exact ⟨ret_two (by unfold grS; rw [hI.out]; try rw [ha]; try rw [hw]; rfl) (by unfold grE; rw [hI.out]; try rw [ha]; try rw [hw]; rfl), hB⟩
theorem granted_none_2 (a : Option Addr) (c : Nat) (f : Nat → Int) (w : World) : Calls Tryd.prog 25 #[.int .i64 2, .slice a 0 c] w fun r w' => r = .returned (.tuple #[.int .i64 (grS 2 f 0), .int .i64 (grE 2 f 0)]) ∧ w = w' := by
  go_enter Tryd.func25, Tryd.ntmps25
  go_wp2
  refine wp_loop_rounds 1 ?_
  rw [rounds_succ]
  go_wp2
  go_ret2
  exact ⟨rfl, rfl⟩

theorem granted_kind (kind : Int) (h1 : kind ≠ 1) (h2 : kind ≠ 2) (sv : Value) (f : Nat → Int) (n : Nat) (w : World) : Calls Tryd.prog 25 #[.int .i64 kind, sv] w fun r w' => r = .returned (.tuple #[.int .i64 (grS kind f n), .int .i64 (grE kind f n)]) ∧ w = w' := by
  have e1 : (kind != 1) = true := by simpa using h1
  have e2 : (kind != 2) = true := by simpa using h2
  have h3 := hide (show ¬ (kind = 1 ∨ kind = 2) by omega)
  clear h1 h2
  go_enter Tryd.func25, Tryd.ntmps25
  go_wp2
  go_ret2
  exact ⟨ret_two (by unfold grS; rw [if_neg h3.out]) (by unfold grE; rw [if_neg h3.out]), rfl⟩
theorem granted_any (kind : Int) (n : Nat) (hn : n ≤ 1000) (f : Nat → Int) (sv : Value) (w : World) (T : Tab w) (h : Sl w sv n f) :
    Calls Tryd.prog 25 #[.int .i64 kind, sv] w fun r w' => r = .returned (.tuple #[.int .i64 (grS kind f n), .int .i64 (grE kind f n)]) ∧ Below w.heap.size w w' := by
  by_cases h1 : kind = 1
  · subst h1
    rcases h with ⟨rfl, a, c, rfl⟩ | ⟨b, off, c, rfl, hb, hc⟩
    · exact (granted_none_1 a c f w).mono fun r w' ⟨hr, hw⟩ => ⟨hr, by rw [← hw]; exact Below.refl _ _⟩
    · exact granted_1 n hn f b off c w T hb hc
  · by_cases h2 : kind = 2
    · subst h2
      rcases h with ⟨rfl, a, c, rfl⟩ | ⟨b, off, c, rfl, hb, hc⟩
      · exact (granted_none_2 a c f w).mono fun r w' ⟨hr, hw⟩ => ⟨hr, by rw [← hw]; exact Below.refl _ _⟩
      · exact granted_2 n hn f b off c w T hb hc
    · exact (granted_kind kind h1 h2 sv f n w).mono fun r w' ⟨hr, hw⟩ => ⟨hr, by rw [← hw]; exact Below.refl _ _⟩
/-- Three numbers as a row. -/
def row3 (a b c : Int) : Nat → Int | 0 => a | 1 => b | _ => c
theorem sl2 (w : World) (a b : Int) (t : TypeId) (x : Int) : Sl (w.alloc (.cells #[.int .i64 a, .int .i64 b] t)) (.slice (some ⟨w.heap.size, 0, none⟩) 2 2) 2 (row3 a b x) :=
  .inr ⟨w.heap.size, 0, 2, rfl, by simp, fun j hj => by
    match j, hj with
    | 0, _ => simp [go_sem, row3]
    | 1, _ => simp [go_sem, row3]⟩
theorem sl3 (w : World) (a b c : Int) (t : TypeId) : Sl (w.alloc (.cells #[.int .i64 a, .int .i64 b, .int .i64 c] t)) (.slice (some ⟨w.heap.size, 0, none⟩) 3 3) 3 (row3 a b c) :=
  .inr ⟨w.heap.size, 0, 3, rfl, by simp, fun j hj => by
    match j, hj with
    | 0, _ => simp [go_sem, row3]
    | 1, _ => simp [go_sem, row3]
    | 2, _ => simp [go_sem, row3]⟩
theorem granted_ex (w : World) (T : Tab w) : Calls Tryd.prog 25 #[.int .i64 1, .slice (some ⟨w.heap.size, 0, none⟩) 2 2] (w.alloc (.cells #[.int .i64 3, .int .i64 0] 3)) fun r w' => r = .returned (.tuple #[.int .i64 1, .int .i64 0]) ∧ Below (w.heap.size + 1) (w.alloc (.cells #[.int .i64 3, .int .i64 0] 3)) w' := by
  simpa [show grS 1 (row3 3 0 0) 2 = 1 from by decide, show grE 1 (row3 3 0 0) 2 = 0 from by decide] using granted_any 1 2 (by omega) (row3 3 0 0) _ _ (T.alloc _) (sl2 w 3 0 3 0)
theorem fit_ex1 (w : World) (T : Tab w) : Calls Tryd.prog 26 #[.slice (some ⟨w.heap.size, 0, none⟩) 3 3] (w.alloc (.cells #[.int .i64 3, .int .i64 1, .int .i64 1] 3)) fun r w' => r = .returned (.bool true) ∧ Below (w.heap.size + 1) (w.alloc (.cells #[.int .i64 3, .int .i64 1, .int .i64 1] 3)) w' := by
  simpa [show fitB (row3 3 1 1) 3 = true from by decide] using fit_any 3 (by omega) (row3 3 1 1) _ _ (T.alloc _) (sl3 w 3 1 1 3)
theorem fit_ex2 (w : World) (T : Tab w) : Calls Tryd.prog 26 #[.slice (some ⟨w.heap.size, 0, none⟩) 2 2] (w.alloc (.cells #[.int .i64 2, .int .i64 1] 3)) fun r w' => r = .returned (.bool false) ∧ Below (w.heap.size + 1) (w.alloc (.cells #[.int .i64 2, .int .i64 1] 3)) w' := by
  simpa [show fitB (row3 2 1 0) 2 = false from by decide] using fit_any 2 (by omega) (row3 2 1 0) _ _ (T.alloc _) (sl2 w 2 1 3 0)
theorem below_alloc' {w w' : World} {o : Obj} (h : Below (w.heap.size + 1) (w.alloc o) w') : Below w.heap.size w w' :=
  ((Below.refl _ _).alloc (Nat.le_refl _) _).trans (h.mono (by simp))
set_option maxHeartbeats 2000000 in
theorem awake_ok (w : World) (T : Tab w) : Calls Tryd.prog 22 #[] w fun r w' => r = .returned (.bool true) ∧ Below w.heap.size w w' := by
  have TT := hide T
  clear T
  go_enter Tryd.func22, Tryd.ntmps22
  go_wp2_with fail
  refine (probe_4_1 w TT.out).mono ?_
  rintro r w1 ⟨rfl, hb1⟩
  have T1 := hide ((show Tab w from TT.out).next hb1)
  go_wp2_with fail
  refine (granted_ex w1 T1.out).mono ?_
  rintro r w2 ⟨rfl, hb2⟩
  have hb2' := below_alloc' hb2
  have T2 := hide ((show Tab w1 from T1.out).next hb2')
  clear hb2
  go_wp2_with fail
  refine (fit_ex1 w2 T2.out).mono ?_
  rintro r w3 ⟨rfl, hb3⟩
  have hb3' := below_alloc' hb3
  have T3 := hide ((show Tab w2 from T2.out).next hb3')
  clear hb3
  go_wp2_with fail
  refine (fit_ex2 w3 T3.out).mono ?_
  rintro r w4 ⟨rfl, hb4⟩
  have hb4' := below_alloc' hb4
  clear hb4
  go_wp2
  go_ret
  exact ⟨rfl, below_step (below_step (below_step hb1 hb1.size hb2') (Nat.le_trans hb1.size hb2'.size) hb3') (Nat.le_trans hb1.size (Nat.le_trans hb2'.size hb3'.size)) hb4'⟩
end Go.Proofs.YtijhndmmljicmaaDoor
