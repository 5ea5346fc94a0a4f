/- Fit and Granted over a row of states, walked. -/
import Derived.Test.YtijhndmmljicmaaDoorQ
import Derived.WalkKit
import Derived.WalkSpells
import Derived.ProofKit
import Derived.Outline
import Derived.Handy
import Derived.RowKit3
import Derived.BigQuiet
import Derived.Deep.QuietTactic
import Derived.Deep.RegionHeld3
import Derived.IntWalk
import Derived.LoopTactic
import Derived.OwnWalk
namespace Go.Proofs.YtijhndmmljicmaaDoor
open Go.RowKit
set_option linter.unusedVariables false
set_option maxRecDepth 100000

/-- How many of the first k satisfy p; whether all do; whether one does. -/
def cntF (p : Int → Bool) (f : Nat → Int) : Nat → Nat
  | 0 => 0
  | k + 1 => cntF p f k + (if p (f k) then 1 else 0)
def allF (p : Int → Bool) (f : Nat → Int) : Nat → Bool
  | 0 => true
  | k + 1 => allF p f k && p (f k)
def anyF (p : Int → Bool) (f : Nat → Int) : Nat → Bool
  | 0 => false
  | k + 1 => anyF p f k || p (f k)
theorem cnt_le (p : Int → Bool) (f : Nat → Int) (k : Nat) : cntF p f k ≤ k := by
  induction k with
  | zero => simp [cntF]
  | succ k ih => simp only [cntF]; split <;> omega
theorem cnt_t {p : Int → Bool} {f : Nat → Int} {k : Nat} (h : p (f k) = true) : (cntF p f k : Int) + 1 = (cntF p f (k + 1) : Nat) := by simp [cntF, h]
theorem cnt_f {p : Int → Bool} {f : Nat → Int} {k : Nat} (h : p (f k) = false) : (cntF p f k : Int) = (cntF p f (k + 1) : Nat) := by simp [cntF, h]
theorem int_eq {k : IntKind} {a b : Int} (h : a = b) : Value.int k a = Value.int k b := by rw [h]
theorem bool_eq {a b : Bool} (h : a = b) : Value.bool a = Value.bool b := by rw [h]
/-- A slice value of n numbers, the j-th of which is f j. -/
def Sl (w : World) (sv : Value) (n : Nat) (f : Nat → Int) : Prop :=
  (n = 0 ∧ ∃ a c, sv = .slice a 0 c) ∨ (∃ b off c, sv = .slice (some ⟨b, off, none⟩) n c ∧ b < w.heap.size ∧ ∀ j, j < n → w.cell? ⟨b, off + j, none⟩ = some (.int .i64 (f j)))
theorem Sl.next {w w' : World} {sv : Value} {n : Nat} {f : Nat → Int} (h : Sl w sv n f) (hb : Below w.heap.size w w') : Sl w' sv n f := by
  rcases h with h | ⟨b, off, c, rfl, hlt, hc⟩
  · exact .inl h
  · exact .inr ⟨b, off, c, rfl, Nat.lt_of_lt_of_le hlt hb.size, fun j hj => cell_next hb hlt (hc j hj)⟩
def fitB (f : Nat → Int) (n : Nat) : Bool := allF isB f n && (decide (cntF owB f n ≤ 1) && (decide (cntF stB f n = 0) || decide (cntF vaB f n = 1)))
def FitRel (n : Nat) (f : Nat → Int) (w : World) (v3 v4 v5 v6 v11 : Value) (wr : World) : Prop :=
  ∃ k : Nat, k ≤ n ∧ v11 = .int .i64 k ∧ v3 = .int .i64 (cntF vaB f k : Nat) ∧ v4 = .int .i64 (cntF owB f k : Nat) ∧ v5 = .int .i64 (cntF stB f k : Nat) ∧ v6 = .bool (allF isB f k) ∧ Below w.heap.size w wr

set_option maxHeartbeats 4000000 in
theorem fit_row (n : Nat) (hn : n ≤ 1000) (f : Nat → Int) (b off c : Nat) (w : World) (T : Tab w) (hb : b < w.heap.size) (hc : ∀ j, j < n → w.cell? ⟨b, off + j, none⟩ = some (.int .i64 (f j))) :
    Calls Tryd.prog 26 #[.slice (some ⟨b, off, none⟩) n c] w fun r w' => r = .returned (.bool (fitB f n)) ∧ Below w.heap.size w w' := by
  have hc := hide hc
  have T := hide T
  go_enter Tryd.func26, Tryd.ntmps26
  go_wp2
  go_step3
  go_wp2
  go_step3
  go_wp2
  go_loopw [3, 4, 5, 6, 11] (fun v3 v4 v5 v6 v11 wr => FitRel n f w v3 v4 v5 v6 v11 wr) (fun _ _ _ _ v11 _ => n - (intOf v11).toNat)
  case atStart => exact ⟨0, Nat.zero_le _, rfl, rfl, rfl, rfl, rfl, Below.refl _ _⟩
  case round =>
    obtain ⟨k, hk, rfl, rfl, rfl, rfl, rfl, hB⟩ := hrel
    have l1 := cnt_le vaB f k
    have l2 := cnt_le owB f k
    have l3 := cnt_le stB f k
    by_cases hlt : k < n
    · have hx : wr.cell? ⟨b, off + k, none⟩ = some (.int .i64 (f k)) := cell_next hB hb (hc.out k hlt)
      have TT := hide (Tab.next (unhide T) hB)
      by_cases h5 : 0 ≤ f k ∧ f k ≤ 4
      · rcases five h5 with hv | hv | hv | hv | hv
        · replace hv := hide hv
          clear h5
          go_wp2_with fail
          refine (is_v (f k) true (by rw [hv.out]; decide) _).mono ?_
          rintro r w1 ⟨rfl, rfl⟩
          go_wp2_with fail
          refine (valid_v (f k) false (by rw [hv.out]; decide) _).mono ?_
          rintro r w1 ⟨rfl, rfl⟩
          go_wp2_with fail
          refine (owner_v (f k) false (by rw [hv.out]; decide) _ (unhide TT)).mono ?_
          rintro r w1 ⟨rfl, hb1⟩
          have TT := hide ((unhide TT).next hb1)
          go_wp2_with fail
          refine (store_v (f k) false (by rw [hv.out]; decide) _ (unhide TT)).mono ?_
          rintro r w2 ⟨rfl, hb2⟩
          go_wp2
          go_roundw
          case rel => exact ⟨k + 1, by omega, int_eq (by omega), int_eq (cnt_f (by rw [hv.out]; decide)), int_eq (cnt_f (by rw [hv.out]; decide)), int_eq (cnt_f (by rw [hv.out]; decide)), bool_eq (by simp only [allF]; rw [show isB (f k) = true from by rw [hv.out]; decide]; simp), (hB.trans (hb1.mono hB.size)).trans (hb2.mono (Nat.le_trans hB.size hb1.size))⟩
          case measure => simp [intOf]; omega
        · replace hv := hide hv
          clear h5
          go_wp2_with fail
          refine (is_v (f k) true (by rw [hv.out]; decide) _).mono ?_
          rintro r w1 ⟨rfl, rfl⟩
          go_wp2_with fail
          refine (valid_v (f k) true (by rw [hv.out]; decide) _).mono ?_
          rintro r w1 ⟨rfl, rfl⟩
          go_wp2_with fail
          refine (owner_v (f k) false (by rw [hv.out]; decide) _ (unhide TT)).mono ?_
          rintro r w1 ⟨rfl, hb1⟩
          have TT := hide ((unhide TT).next hb1)
          go_wp2_with fail
          refine (store_v (f k) false (by rw [hv.out]; decide) _ (unhide TT)).mono ?_
          rintro r w2 ⟨rfl, hb2⟩
          go_wp2
          go_roundw
          case rel => exact ⟨k + 1, by omega, int_eq (by omega), int_eq (cnt_t (by rw [hv.out]; decide)), int_eq (cnt_f (by rw [hv.out]; decide)), int_eq (cnt_f (by rw [hv.out]; decide)), bool_eq (by simp only [allF]; rw [show isB (f k) = true from by rw [hv.out]; decide]; simp), (hB.trans (hb1.mono hB.size)).trans (hb2.mono (Nat.le_trans hB.size hb1.size))⟩
          case measure => simp [intOf]; omega
        · replace hv := hide hv
          clear h5
          go_wp2_with fail
          refine (is_v (f k) true (by rw [hv.out]; decide) _).mono ?_
          rintro r w1 ⟨rfl, rfl⟩
          go_wp2_with fail
          refine (valid_v (f k) true (by rw [hv.out]; decide) _).mono ?_
          rintro r w1 ⟨rfl, rfl⟩
          go_wp2_with fail
          refine (owner_v (f k) true (by rw [hv.out]; decide) _ (unhide TT)).mono ?_
          rintro r w1 ⟨rfl, hb1⟩
          have TT := hide ((unhide TT).next hb1)
          go_wp2_with fail
          refine (store_v (f k) true (by rw [hv.out]; decide) _ (unhide TT)).mono ?_
          rintro r w2 ⟨rfl, hb2⟩
          go_wp2
          go_roundw
          case rel => exact ⟨k + 1, by omega, int_eq (by omega), int_eq (cnt_t (by rw [hv.out]; decide)), int_eq (cnt_t (by rw [hv.out]; decide)), int_eq (cnt_t (by rw [hv.out]; decide)), bool_eq (by simp only [allF]; rw [show isB (f k) = true from by rw [hv.out]; decide]; simp), (hB.trans (hb1.mono hB.size)).trans (hb2.mono (Nat.le_trans hB.size hb1.size))⟩
          case measure => simp [intOf]; omega
        · replace hv := hide hv
          clear h5
          go_wp2_with fail
          refine (is_v (f k) true (by rw [hv.out]; decide) _).mono ?_
          rintro r w1 ⟨rfl, rfl⟩
          go_wp2_with fail
          refine (valid_v (f k) true (by rw [hv.out]; decide) _).mono ?_
          rintro r w1 ⟨rfl, rfl⟩
          go_wp2_with fail
          refine (owner_v (f k) true (by rw [hv.out]; decide) _ (unhide TT)).mono ?_
          rintro r w1 ⟨rfl, hb1⟩
          have TT := hide ((unhide TT).next hb1)
          go_wp2_with fail
          refine (store_v (f k) false (by rw [hv.out]; decide) _ (unhide TT)).mono ?_
          rintro r w2 ⟨rfl, hb2⟩
          go_wp2
          go_roundw
          case rel => exact ⟨k + 1, by omega, int_eq (by omega), int_eq (cnt_t (by rw [hv.out]; decide)), int_eq (cnt_t (by rw [hv.out]; decide)), int_eq (cnt_f (by rw [hv.out]; decide)), bool_eq (by simp only [allF]; rw [show isB (f k) = true from by rw [hv.out]; decide]; simp), (hB.trans (hb1.mono hB.size)).trans (hb2.mono (Nat.le_trans hB.size hb1.size))⟩
          case measure => simp [intOf]; omega
        · replace hv := hide hv
          clear h5
          go_wp2_with fail
          refine (is_v (f k) true (by rw [hv.out]; decide) _).mono ?_
          rintro r w1 ⟨rfl, rfl⟩
          go_wp2_with fail
          refine (valid_v (f k) true (by rw [hv.out]; decide) _).mono ?_
          rintro r w1 ⟨rfl, rfl⟩
          go_wp2_with fail
          refine (owner_v (f k) true (by rw [hv.out]; decide) _ (unhide TT)).mono ?_
          rintro r w1 ⟨rfl, hb1⟩
          have TT := hide ((unhide TT).next hb1)
          go_wp2_with fail
          refine (store_v (f k) true (by rw [hv.out]; decide) _ (unhide TT)).mono ?_
          rintro r w2 ⟨rfl, hb2⟩
          go_wp2
          go_roundw
          case rel => exact ⟨k + 1, by omega, int_eq (by omega), int_eq (cnt_t (by rw [hv.out]; decide)), int_eq (cnt_t (by rw [hv.out]; decide)), int_eq (cnt_t (by rw [hv.out]; decide)), bool_eq (by simp only [allF]; rw [show isB (f k) = true from by rw [hv.out]; decide]; simp), (hB.trans (hb1.mono hB.size)).trans (hb2.mono (Nat.le_trans hB.size hb1.size))⟩
          case measure => simp [intOf]; omega
      · have hi : isB (f k) = false := by unfold isB; simpa using h5
        replace hi := hide hi
        replace h5 := hide h5
        go_wp2_with fail
        refine (is_v (f k) false hi.out _).mono ?_
        rintro r w1 ⟨rfl, rfl⟩
        go_wp2
        go_roundw
        case rel => exact ⟨k + 1, by omega, int_eq (by omega), int_eq (cnt_f (by have := h5.out; unfold vaB; simp; omega)), int_eq (cnt_f (by have := h5.out; unfold owB; simp; omega)), int_eq (cnt_f (by have := h5.out; unfold stB; simp; omega)), bool_eq (by simp only [allF]; rw [hi.out]; simp), hB⟩
        case measure => simp [intOf]; omega
    · obtain rfl : k = n := by omega
      clear hc T
      cases h1 : allF isB f k
      · go_wp2
        try rw [Exit.noGoto_ret]
        go_ret
        exact ⟨ret_bool (by simp [fitB, h1]), hB⟩
      · by_cases h2 : cntF owB f k ≤ 1
        · have e2 : decide ((cntF owB f k : Int) ≤ 1) = true := by simp; omega
          by_cases h3 : cntF stB f k = 0
          · have e3 : ((cntF stB f k : Int) == 0) = true := by simp; omega
            replace h3 := hide h3
            go_wp2
            try rw [Exit.noGoto_ret]
            go_ret
            exact ⟨ret_bool (by simp [fitB, h1, h2, h3.out]), hB⟩
          · have e3 : ((cntF stB f k : Int) == 0) = false := by simp; omega
            by_cases h4 : cntF vaB f k = 1
            · have e4 : ((cntF vaB f k : Int) == 1) = true := by simp; omega
              replace h3 := hide h3
              replace h4 := hide h4
              go_wp2
              try rw [Exit.noGoto_ret]
              go_ret
              exact ⟨ret_bool (by simp [fitB, h1, h2, h4.out]), hB⟩
            · have e4 : ((cntF vaB f k : Int) == 1) = false := by simp; omega
              replace h3 := hide h3
              replace h4 := hide h4
              go_wp2
              try rw [Exit.noGoto_ret]
              go_ret
              exact ⟨ret_bool (by simp [fitB, h1, h2, h3.out, h4.out]), hB⟩
        · have e2 : decide ((cntF owB f k : Int) ≤ 1) = false := by simp; omega
          go_wp2
          try rw [Exit.noGoto_ret]
          go_ret
          exact ⟨ret_bool (by simp [fitB, h1, h2]), hB⟩
theorem fit_none (a : Option Addr) (c : Nat) (w : World) : Calls Tryd.prog 26 #[.slice a 0 c] w fun r w' => r = .returned (.bool true) ∧ w = w' := by
  go_enter Tryd.func26, Tryd.ntmps26
  go_wp2
  go_step3
  go_wp2
  go_step3
  go_wp2
  refine wp_loop_rounds 1 ?_
  rw [rounds_succ]
  go_wp2
  try rw [Exit.noGoto_ret]
  go_ret
  exact ⟨rfl, rfl⟩
theorem fit_any (n : Nat) (hn : n ≤ 1000) (f : Nat → Int) (sv : Value) (w : World) (T : Tab w) (h : Sl w sv n f) :
    Calls Tryd.prog 26 #[sv] w fun r w' => r = .returned (.bool (fitB f n)) ∧ Below w.heap.size w w' := by
  rcases h with ⟨rfl, a, c, rfl⟩ | ⟨b, off, c, rfl, hb, hc⟩
  · exact (fit_none a c w).mono fun r w' ⟨hr, hw⟩ => ⟨by rw [hr]; rfl, by rw [← hw]; exact Below.refl _ _⟩
  · exact fit_row n hn f b off c w T hb hc
end Go.Proofs.YtijhndmmljicmaaDoor
