/- MoesiFits, walked. -/
import Derived.Test.YtijhndmmljicmaaDoorRF
import Derived.Test.YtijhndmmljicmaaDoorS
import Derived.WalkKit
import Derived.WalkSpells
import Derived.ProofKit
import Derived.Outline
import Derived.Handy
import Derived.RowKit3
import Derived.BigQuiet
import Derived.Deep.QuietTactic
import Derived.Deep.RegionHeld3
import Derived.IntWalk
import Derived.LoopTactic
import Derived.OwnWalk
import Derived.Laws.AppendOwn
import Derived.Maps.AppendAt
namespace Go.Proofs.YtijhndmmljicmaaDoor
open Go.RowKit
set_option linter.unusedVariables false
set_option maxRecDepth 100000

theorem info3 : (Tryd.prog.info? 3).map (fun i => (i.zero, i.size, i.bytes)) = some (some (.int .i64 0), 1, 8) := by kernel_rfl
def cellsOf (g : Nat → Int) (k : Nat) : List Value := (List.range k).map fun j => Value.int .i64 (g j)
theorem cellsOf_succ (g : Nat → Int) (k : Nat) : cellsOf g (k + 1) = cellsOf g k ++ [.int .i64 (g k)] := by simp [cellsOf, List.range_succ]
theorem cellsOf_at (g : Nat → Int) {j k : Nat} (h : j < k) : (cellsOf g k)[j]? = some (.int .i64 (g j)) := by simp [cellsOf, h]
theorem sl_of_owns {w : World} {base n : Nat} {v : Value} {g : Nat → Int} (h : w.ownsRow base 3 1 v n (cellsOf g n)) : Sl w v n g := by
  obtain ⟨hl, ⟨rfl, rfl⟩ | ⟨b, cap, cur, rfl, hb, hh, hn, hm, hc, ht⟩⟩ := h
  · exact .inl ⟨rfl, none, 0, rfl⟩
  · refine .inr ⟨b, 0, cap, rfl, (Array.getElem?_eq_some_iff.1 hh).1, fun j hj => ?_⟩
    have e : w.cell? ⟨b, 0 + j, none⟩ = cur[j]? := by simp [World.cell?, hh]
    rw [e]
    have t := congrArg (·[j]?) ht
    simp only [Nat.mul_one] at t
    rw [List.getElem?_take, if_pos hj, cellsOf_at g hj] at t
    simpa using t
theorem fit_v (n : Nat) (hn : n ≤ 1000) (f : Nat → Int) (v : Bool) (h : fitB f n = v) (sv : Value) (w : World) (T : Tab w) (hs : Sl w sv n f) :
    Calls Tryd.prog 26 #[sv] w fun r w' => r = .returned (.bool v) ∧ Below w.heap.size w w' := by
  subst h; exact fit_any n hn f sv w T hs
theorem rfit_v (n : Nat) (hn : n ≤ 1000) (f : Nat → Int) (v : Bool) (h : fitB f n = v) (bb off c : Nat) (w : World) (hb : bb < w.heap.size) (hc : ∀ j, j < n → w.cell? ⟨bb, off + j, none⟩ = some (.int .i64 (f j))) :
    Calls Tryd.prog 27 #[.slice (some ⟨bb, off, none⟩) n c] w fun r w' => r = .returned (.bool v) ∧ w = w' := by
  subst h; exact rfit_row n hn f bb off c w hb hc
def FtRel (n : Nat) (g : Nat → Int) (w : World) (v6 v7 : Value) (wr : World) : Prop :=
  ∃ k : Nat, k ≤ n ∧ v7 = .int .i64 k ∧ wr.ownsRow w.heap.size 3 1 v6 k (cellsOf g k) ∧ Below w.heap.size w wr
theorem appended {w wr w1 : World} {v v' : Value} {k : Nat} {g : Nat → Int} {o : Obj} (hown : wr.ownsRow w.heap.size 3 1 v k (cellsOf g k)) (hB : Below w.heap.size w wr)
    (hown' : w1.ownsRow w.heap.size 3 1 v' (k + 1) (cellsOf g k ++ [.int .i64 (g k)])) (hgrow : (wr.alloc o).grownBy w1 v.ownBlock) :
    w1.ownsRow w.heap.size 3 1 v' (k + 1) (cellsOf g (k + 1)) ∧ Below w.heap.size w w1 :=
  ⟨by rw [cellsOf_succ]; exact hown', (hB.alloc hB.size o).grown hgrow (by have := hB.size; simp; omega) (fun j hj => (hown.lt j hj).1)⟩
set_option maxHeartbeats 8000000 in
theorem fits_row (n : Nat) (hn : n ≤ 20) (hn0 : 0 < n) (x : Int) (f : Nat → Int) (bb off c : Nat) (w : World) (T : Tab w) (hb : bb < w.heap.size) (hc : ∀ j, j < n → w.cell? ⟨bb, off + j, none⟩ = some (.int .i64 (f j))) :
    Calls Tryd.prog 6 #[.slice (some ⟨bb, off, none⟩) n c, .int .i64 x] w fun r w' => r = .returned (.bool true) ∧ Below w.heap.size w w' := by
  replace hc := hide hc
  have TT := hide T
  clear T
  have e0 : ((n : Int) == 0) = false := by simp; omega
  have e20 : ¬ 20 < (n : Int) := by omega
  obtain ⟨i0, hi, hz0, hz1, hz2⟩ := info_parts info3
  have ht1 : -(n : Int) < x.tmod n := by have := Int.lt_tmod_of_pos x (show (0 : Int) < n by omega); omega
  have ht2 : x.tmod n < n := Int.tmod_lt_of_pos x (by omega)
  obtain ⟨r, hr⟩ : ∃ r : Nat, (x.tmod n + n) % n = (r : Int) := ⟨((x.tmod n + n) % n).toNat, by have := Int.emod_nonneg (x.tmod n + n) (show (n : Int) ≠ 0 by omega); omega⟩
  have hrn : r < n := by have := Int.emod_lt_of_pos (x.tmod n + n) (show (0 : Int) < n by omega); omega
  go_enter Tryd.func6, Tryd.ntmps6
  go_wp2
  go_loopw [6, 7] (fun v6 v7 wr => FtRel n (fun j => f ((r + j) % n)) w v6 v7 wr) (fun _ v7 _ => n - (intOf v7).toNat)
  case atStart => exact ⟨0, Nat.zero_le _, rfl, World.ownsRow_nil _ _ _ _, Below.refl _ _⟩
  case round =>
    obtain ⟨k, hk, rfl, hown, hB⟩ := hrel
    by_cases hlt : k < n
    · have hm0 : 0 ≤ ((r : Int) + k) % n := Int.emod_nonneg _ (by omega)
      have hm1 : ((r : Int) + k) % n < n := Int.emod_lt_of_pos _ (by omega)
      have hx : wr.cell? ⟨bb, off + (r + k) % n, none⟩ = some (.int .i64 (f ((r + k) % n))) := cell_next hB hb (hc.out _ (Nat.mod_lt _ hn0))
      go_wp2_with (at_builtin; refine wpList_append_own _ rfl _ _ 32 rfl w.heap.size 3 i0 (.int .i64 0) 1 8 Tryd.underlying32 hi hz0 hz1 hz2 rfl (by decide) _ _ _ rfl (hown.alloc _) ⟨wr.heap.size, 0, none⟩ 1 1 [.int .i64 (f ((r + k) % n))] rfl rfl (cell_one_new _ _ _) (by simp [Value.oneCell']) (by unfold maxLen; omega) (by omega) (by have := hB.size; simp; omega) ?_; intro v' w1 hown' hgrow _)
      obtain ⟨a1, a2⟩ := appended (g := fun j => f ((r + j) % n)) hown hB hown' hgrow
      clear hown' hgrow hown
      go_wp2
      go_roundw
      case rel => exact ⟨k + 1, by omega, int_eq (by omega), a1, a2⟩
      case measure => simp [intOf]; omega
    · obtain rfl : k = n := by omega
      have hs1 := hide (show Sl wr (.slice (some ⟨bb, off, none⟩) k c) k f from (show Sl w _ k f from .inr ⟨bb, off, c, rfl, hb, hc.out⟩).next hB)
      have hs2 := hide (sl_of_owns hown)
      have hT := hide ((unhide TT).next hB)
      have hcr := hide (fun j (hj : j < k) => cell_next hB hb (hc.out j hj))
      have hbr : bb < wr.heap.size := Nat.lt_of_lt_of_le hb hB.size
      clear hown
      cases hv : fitB f k
      all_goals
        have hv' := hide hv
        have hv2 := hide ((fit_turn f hrn).trans hv)
        clear hv
        replace hr := hide hr
        go_wp2_with fail
        refine (rfit_v k (by omega) f _ hv'.out bb off c _ hbr hcr.out).mono ?_
        rintro r w2 ⟨rfl, rfl⟩
        go_wp2_with fail
        refine (fit_v k (by omega) f _ hv'.out _ _ (unhide hT) (unhide hs1)).mono ?_
        rintro r w2 ⟨rfl, hb2⟩
        have hT2 := hide ((unhide hT).next hb2)
        have hs3 := hide ((unhide hs2).next hb2)
        go_wp2_with fail
        refine (fit_v k (by omega) _ _ hv2.out _ _ (unhide hT2) (unhide hs3)).mono ?_
        rintro r w3 ⟨rfl, hb3⟩
        have hT3 := hide ((unhide hT2).next hb3)
        go_wp2_with fail
        refine (awake_ok _ (unhide hT3)).mono ?_
        rintro r w4 ⟨rfl, hb4⟩
        go_wp2
        go_ret
        have q2 := below_step hB hB.size hb2
        have q3 := below_step q2 q2.size hb3
        exact ⟨rfl, below_step q3 q3.size hb4⟩
theorem fits_none (a : Option Addr) (c : Nat) (x : Int) (w : World) (T : Tab w) : Calls Tryd.prog 6 #[.slice a 0 c, .int .i64 x] w fun r w' => r = .returned (.bool true) ∧ Below w.heap.size w w' := by
  have TT := hide T
  clear T
  go_enter Tryd.func6, Tryd.ntmps6
  go_wp2_with fail
  refine (fit_none _ _ _).mono ?_
  rintro r w2 ⟨rfl, rfl⟩
  go_wp2_with fail
  refine (awake_ok _ (unhide TT)).mono ?_
  rintro r w4 ⟨rfl, hb4⟩
  go_wp2
  go_ret
  exact ⟨rfl, hb4⟩
theorem fits_many (a : Option Addr) (n c : Nat) (hn : 20 < n) (hm : n ≤ 9223372036854775807) (x : Int) (w : World) (T : Tab w) : Calls Tryd.prog 6 #[.slice a n c, .int .i64 x] w fun r w' => r = .returned (.bool true) ∧ Below w.heap.size w w' := by
  have TT := hide T
  clear T
  go_enter Tryd.func6, Tryd.ntmps6
  go_wp2_with fail
  refine (fit_none _ _ _).mono ?_
  rintro r w2 ⟨rfl, rfl⟩
  go_wp2_with fail
  refine (awake_ok _ (unhide TT)).mono ?_
  rintro r w4 ⟨rfl, hb4⟩
  go_wp2
  go_ret
  exact ⟨rfl, hb4⟩
theorem fits_law (sv : Value) (x : Int) (w : World) (T : Tab w) (h : In w sv) : Calls Tryd.prog 6 #[sv, .int .i64 x] w fun r w' => r = .returned (.bool true) ∧ Below w.heap.size w w' := by
  obtain ⟨a, n, c, rfl, hm, f, hs⟩ := h
  unfold maxLen at hm
  by_cases hn : n ≤ 20
  · rcases hs with ⟨rfl, a', c', e⟩ | ⟨b, off, c', e, hb, hc⟩
    · exact fits_none a c x w T
    · cases e
      by_cases h0 : n = 0
      · subst h0; exact fits_none _ c x w T
      · exact fits_row n hn (by omega) x f b off c w T hb hc
  · exact fits_many a n c (by omega) (by omega) x w T
end Go.Proofs.YtijhndmmljicmaaDoor
