/- MoesiKeeps, walked. -/
import Derived.Test.YtijhndmmljicmaaDoorKP
import Derived.WalkKit
import Derived.WalkSpells
import Derived.ProofKit
import Derived.Outline
import Derived.Handy
import Derived.RowKit3
import Derived.BigQuiet
import Derived.Deep.QuietTactic
import Derived.Deep.RegionHeld3
import Derived.IntWalk
import Derived.LoopTactic
import Derived.OwnWalk
import Derived.Laws.AppendOwn
import Derived.Laws.OwnMore
import Derived.Maps.AppendAt
namespace Go.Proofs.YtijhndmmljicmaaDoor
open Go.RowKit
set_option linter.unusedVariables false
set_option maxRecDepth 100000

set_option maxHeartbeats 16000000 in
theorem keeps_unfit (n : Nat) (hn : n ≤ 20) (hn0 : 0 < n) (x : Int) (f : Nat → Int) (bb off c : Nat) (w : World) (T : Tab w) (hb : bb < w.heap.size) (hc : ∀ j, j < n → w.cell? ⟨bb, off + j, none⟩ = some (.int .i64 (f j))) (hf : fitB f n = false) (wr : Bool) :
    Calls Tryd.prog 7 #[.slice (some ⟨bb, off, none⟩) n c, .int .i64 x, .bool wr] w fun r w' => r = .returned (.bool true) ∧ Below w.heap.size w w' := by
  have hS := hide (show Sl w (.slice (some ⟨bb, off, none⟩) n c) n f from .inr ⟨bb, off, c, rfl, hb, hc⟩)
  replace hc := hide hc
  replace hf := hide hf
  have TT := hide T
  have T0 := hide T
  clear T
  have e0 : ((n : Int) == 0) = false := by simp; omega
  have e20 : ¬ 20 < (n : Int) := by omega
  go_enter Tryd.func7, Tryd.ntmps7
  go_wp2_with fail
  refine (fit_v n (by omega) f _ hf.out _ _ (unhide TT) (unhide hS)).mono ?_
  rintro q w1 ⟨rfl, hb1⟩
  have TT := hide ((unhide TT).next hb1)
  go_wp2_with fail
  refine (awake_ok _ (unhide TT)).mono ?_
  rintro q w2 ⟨rfl, hb2⟩
  go_wp2
  go_ret
  exact ⟨rfl, below_step hb1 hb1.size hb2⟩

theorem ownsRow_next {w w' : World} {base n : Nat} {v : Value} {xs : List Value} (h : w.ownsRow base 3 1 v n xs) (hb : Below w.heap.size w w') : w'.ownsRow base 3 1 v n xs :=
  ⟨h.1, h.2.elim .inl fun ⟨g, cap, cur, hv, hg, hh, r⟩ => .inr ⟨g, cap, cur, hv, hg, (hb.block g (Array.getElem?_eq_some_iff.1 hh).1).trans hh, r⟩⟩
theorem mN_le (r k : Nat) : mN r k ≤ k := by unfold mN; split <;> omega

set_option maxHeartbeats 16000000 in
theorem keeps_w (n : Nat) (hn : n ≤ 20) (hn0 : 0 < n) (x : Int) (f : Nat → Int) (bb off c : Nat) (w : World) (T : Tab w) (hb : bb < w.heap.size) (hc : ∀ j, j < n → w.cell? ⟨bb, off + j, none⟩ = some (.int .i64 (f j))) (hf : fitB f n = true) (r : Nat) (hr : (x.tmod n + n) % n = (r : Int)) (hrn : r < n) :
    Calls Tryd.prog 7 #[.slice (some ⟨bb, off, none⟩) n c, .int .i64 x, .bool true] w fun r w' => r = .returned (.bool true) ∧ Below w.heap.size w w' := by
  have hS := hide (show Sl w (.slice (some ⟨bb, off, none⟩) n c) n f from .inr ⟨bb, off, c, rfl, hb, hc⟩)
  replace hc := hide hc
  replace hf := hide hf
  have TT := hide T
  have T0 := hide T
  clear T
  have e0 : ((n : Int) == 0) = false := by simp; omega
  have e20 : ¬ 20 < (n : Int) := by omega
  have ht1 : -(n : Int) < x.tmod n := by have := Int.lt_tmod_of_pos x (show (0 : Int) < n by omega); omega
  have ht2 : x.tmod n < n := Int.tmod_lt_of_pos x (by omega)
  have hri : (r : Int) < n := by omega
  obtain ⟨i0, hi, hz0, hz1, hz2⟩ := info_parts info3
  have e2 : (x.tmod n + n) % n = (r : Int) := hr
  replace hr := hide hr
  go_enter Tryd.func7, Tryd.ntmps7
  go_wp2_with fail
  refine (fit_v n (by omega) f _ hf.out _ _ (unhide TT) (unhide hS)).mono ?_
  rintro q w1 ⟨rfl, hb1⟩
  have TT := hide ((unhide TT).next hb1)
  have q1 := hb1
  clear e2
  go_wp2
  try rw [show (x.tmod (n : Int) + (n : Int)) % (n : Int) = (r : Int) from hr.out]
  try simp only [show x.tmod (n : Int) % (n : Int) = (r : Int) from by simpa using hr.out]
  go_loopw [10, 11, 12, 13] (fun v10 v11 v12 v13 wr => KwRel n f r w v10 v11 v12 v13 wr) (fun _ _ _ v13 _ => n - (intOf v13).toNat)
  case atStart => exact ⟨0, Nat.zero_le _, rfl, by simp only [mN, Nat.zero_le, if_true]; exact World.ownsRow_nil _ _ _ _, rfl, rfl, q1⟩
  case round =>
    obtain ⟨k, hk, rfl, hown, rfl, rfl, hB⟩ := hrel
    have hmn := mN_le r k
    have l1 := cnt_le owB (setF f r 0) k
    have l2 := cnt_le diB (setF f r 0) k
    replace hown := hide hown
    clear TT
    have TT := hide (Tab.next (unhide T0) hB)
    by_cases hlt : k < n
    · by_cases hkr : k = r
      · have hne : ((k : Int) == (r : Int)) = true := by simp; omega
        have hne3 : (k == r) = true := by simp; omega
        replace hkr := hide hkr
        go_wp2
        go_roundw
        case rel => exact ⟨k + 1, by omega, int_eq (by omega), by rw [hkr.out, mN_self]; rw [hkr.out] at hown; exact unhide hown, int_eq (cnt_f (by rw [hkr.out]; exact set_self (by decide))), int_eq (cnt_f (by rw [hkr.out]; exact set_self (by decide))), hB⟩
        case measure => simp [intOf]; omega
      · have hne : ((k : Int) == (r : Int)) = false := by simp; omega
        have hne3 : (k == r) = false := by simp; omega
        have hx : wr.cell? ⟨bb, off + k, none⟩ = some (.int .i64 (f k)) := cell_next hB hb (hc.out k hlt)
        rcases val_of (all_at ((fit_iff f n).1 hf.out).1 hlt) with hv | hv | hv | hv | hv
        ·
          rw [hv] at hx
          replace hv := hide hv
          go_wp2_with fail
          refine (probe_0_0 _ (unhide TT)).mono ?_
          rintro q w3 ⟨rfl, hb3⟩
          have TT := hide ((unhide TT).next hb3)
          have hown := hide (ownsRow_next (unhide hown) hb3)
          have hB3 := below_step hB hB.size hb3
          have hown1 := unhide hown
          have hsz := hB3.size
          go_wp2_with (at_builtin; refine wpList_append_own _ rfl _ _ 32 rfl w.heap.size 3 i0 (.int .i64 0) 1 8 Tryd.underlying32 hi hz0 hz1 hz2 rfl (by decide) _ _ _ rfl (hown1.alloc _) ⟨w3.heap.size, 0, none⟩ 1 1 [.int .i64 0] rfl rfl (cell_one_new _ _ _) (by simp [Value.oneCell']) (by have := hmn; unfold maxLen; omega) (by have := hmn; omega) (by simp; omega) ?_; intro v' w5 hown' hgrow _)
          obtain ⟨a1, a2⟩ := appended' (g := oth0) rfl hown1 hB3 hown' hgrow
          clear hown' hgrow hown1 hown
          replace a1 := hide a1
          go_wp2
          go_roundw
          case rel => exact ⟨k + 1, by omega, int_eq (by omega), by rw [mN_step hkr]; exact unhide a1, int_eq (cnt_f (set_ne hkr hv.out (by decide))), int_eq (cnt_f (set_ne hkr hv.out (by decide))), a2⟩
          case measure => simp [intOf]; omega
        ·
          rw [hv] at hx
          replace hv := hide hv
          go_wp2_with fail
          refine (probe_1_0 _ (unhide TT)).mono ?_
          rintro q w3 ⟨rfl, hb3⟩
          have TT := hide ((unhide TT).next hb3)
          have hown := hide (ownsRow_next (unhide hown) hb3)
          have hB3 := below_step hB hB.size hb3
          have hown1 := unhide hown
          have hsz := hB3.size
          go_wp2_with (at_builtin; refine wpList_append_own _ rfl _ _ 32 rfl w.heap.size 3 i0 (.int .i64 0) 1 8 Tryd.underlying32 hi hz0 hz1 hz2 rfl (by decide) _ _ _ rfl (hown1.alloc _) ⟨w3.heap.size, 0, none⟩ 1 1 [.int .i64 0] rfl rfl (cell_one_new _ _ _) (by simp [Value.oneCell']) (by have := hmn; unfold maxLen; omega) (by have := hmn; omega) (by simp; omega) ?_; intro v' w5 hown' hgrow _)
          obtain ⟨a1, a2⟩ := appended' (g := oth0) rfl hown1 hB3 hown' hgrow
          clear hown' hgrow hown1 hown
          replace a1 := hide a1
          go_wp2
          go_roundw
          case rel => exact ⟨k + 1, by omega, int_eq (by omega), by rw [mN_step hkr]; exact unhide a1, int_eq (cnt_f (set_ne hkr hv.out (by decide))), int_eq (cnt_f (set_ne hkr hv.out (by decide))), a2⟩
          case measure => simp [intOf]; omega
        ·
          rw [hv] at hx
          replace hv := hide hv
          go_wp2_with fail
          refine (probe_2_0 _ (unhide TT)).mono ?_
          rintro q w3 ⟨rfl, hb3⟩
          have TT := hide ((unhide TT).next hb3)
          have hown := hide (ownsRow_next (unhide hown) hb3)
          have hB3 := below_step hB hB.size hb3
          have hown1 := unhide hown
          have hsz := hB3.size
          go_wp2_with (at_builtin; refine wpList_append_own _ rfl _ _ 32 rfl w.heap.size 3 i0 (.int .i64 0) 1 8 Tryd.underlying32 hi hz0 hz1 hz2 rfl (by decide) _ _ _ rfl (hown1.alloc _) ⟨w3.heap.size, 0, none⟩ 1 1 [.int .i64 0] rfl rfl (cell_one_new _ _ _) (by simp [Value.oneCell']) (by have := hmn; unfold maxLen; omega) (by have := hmn; omega) (by simp; omega) ?_; intro v' w5 hown' hgrow _)
          obtain ⟨a1, a2⟩ := appended' (g := oth0) rfl hown1 hB3 hown' hgrow
          clear hown' hgrow hown1 hown
          replace a1 := hide a1
          go_wp2
          go_roundw
          case rel => exact ⟨k + 1, by omega, int_eq (by omega), by rw [mN_step hkr]; exact unhide a1, int_eq (cnt_t (set_ne hkr hv.out (by decide))), int_eq (cnt_f (set_ne hkr hv.out (by decide))), a2⟩
          case measure => simp [intOf]; omega
        ·
          rw [hv] at hx
          replace hv := hide hv
          go_wp2_with fail
          refine (probe_3_0 _ (unhide TT)).mono ?_
          rintro q w3 ⟨rfl, hb3⟩
          have TT := hide ((unhide TT).next hb3)
          have hown := hide (ownsRow_next (unhide hown) hb3)
          have hB3 := below_step hB hB.size hb3
          go_wp2_with fail
          refine (dirty_v 0 false (by decide) _ (unhide TT)).mono ?_
          rintro q w4 ⟨rfl, hb4⟩
          have TT := hide ((unhide TT).next hb4)
          have hown := hide (ownsRow_next (unhide hown) hb4)
          have hB4 := below_step hB3 hB3.size hb4
          have hown1 := unhide hown
          have hsz := hB4.size
          go_wp2_with (at_builtin; refine wpList_append_own _ rfl _ _ 32 rfl w.heap.size 3 i0 (.int .i64 0) 1 8 Tryd.underlying32 hi hz0 hz1 hz2 rfl (by decide) _ _ _ rfl (hown1.alloc _) ⟨w4.heap.size, 0, none⟩ 1 1 [.int .i64 0] rfl rfl (cell_one_new _ _ _) (by simp [Value.oneCell']) (by have := hmn; unfold maxLen; omega) (by have := hmn; omega) (by simp; omega) ?_; intro v' w5 hown' hgrow _)
          obtain ⟨a1, a2⟩ := appended' (g := oth0) rfl hown1 hB4 hown' hgrow
          clear hown' hgrow hown1 hown
          replace a1 := hide a1
          go_wp2
          go_roundw
          case rel => exact ⟨k + 1, by omega, int_eq (by omega), by rw [mN_step hkr]; exact unhide a1, int_eq (cnt_t (set_ne hkr hv.out (by decide))), int_eq (cnt_t (set_ne hkr hv.out (by decide))), a2⟩
          case measure => simp [intOf]; omega
        ·
          rw [hv] at hx
          replace hv := hide hv
          go_wp2_with fail
          refine (probe_4_0 _ (unhide TT)).mono ?_
          rintro q w3 ⟨rfl, hb3⟩
          have TT := hide ((unhide TT).next hb3)
          have hown := hide (ownsRow_next (unhide hown) hb3)
          have hB3 := below_step hB hB.size hb3
          go_wp2_with fail
          refine (dirty_v 0 false (by decide) _ (unhide TT)).mono ?_
          rintro q w4 ⟨rfl, hb4⟩
          have TT := hide ((unhide TT).next hb4)
          have hown := hide (ownsRow_next (unhide hown) hb4)
          have hB4 := below_step hB3 hB3.size hb4
          have hown1 := unhide hown
          have hsz := hB4.size
          go_wp2_with (at_builtin; refine wpList_append_own _ rfl _ _ 32 rfl w.heap.size 3 i0 (.int .i64 0) 1 8 Tryd.underlying32 hi hz0 hz1 hz2 rfl (by decide) _ _ _ rfl (hown1.alloc _) ⟨w4.heap.size, 0, none⟩ 1 1 [.int .i64 0] rfl rfl (cell_one_new _ _ _) (by simp [Value.oneCell']) (by have := hmn; unfold maxLen; omega) (by have := hmn; omega) (by simp; omega) ?_; intro v' w5 hown' hgrow _)
          obtain ⟨a1, a2⟩ := appended' (g := oth0) rfl hown1 hB4 hown' hgrow
          clear hown' hgrow hown1 hown
          replace a1 := hide a1
          go_wp2
          go_roundw
          case rel => exact ⟨k + 1, by omega, int_eq (by omega), by rw [mN_step hkr]; exact unhide a1, int_eq (cnt_t (set_ne hkr hv.out (by decide))), int_eq (cnt_t (set_ne hkr hv.out (by decide))), a2⟩
          case measure => simp [intOf]; omega
    · obtain rfl : k = n := by omega
      have hown1 := unhide hown
      rw [mN_end hrn] at hown1
      have hs1 := hide (sl_of_owns hown1)
      have t1 := told_le (r := r) hf.out
      have t2 := dirty_le (r := r) hf.out
      have hm1 : k - 1 + 1 = k := by omega
      have hown2 := hide hown1
      clear hown1 hown
      go_wp2_with fail
      refine (granted_v 2 (k - 1) (by omega) oth0 4 0 (gr_w _).1 (gr_w _).2 _ _ (unhide TT) (unhide hs1)).mono ?_
      rintro q w9 ⟨rfl, hb9⟩
      have TT := hide ((unhide TT).next hb9)
      have hown2 := hide (ownsRow_next (unhide hown2) hb9)
      have hB := below_step hB hB.size hb9
      clear hb9
      go_wp2_with fail
      refine (store_v 4 true (by decide) _ (unhide TT)).mono ?_
      rintro q w9 ⟨rfl, hb9⟩
      have TT := hide ((unhide TT).next hb9)
      have hown2 := hide (ownsRow_next (unhide hown2) hb9)
      have hB := below_step hB hB.size hb9
      clear hb9
      go_wp2_with fail
      refine (load_v 4 true (by decide) _ (unhide TT)).mono ?_
      rintro q w9 ⟨rfl, hb9⟩
      have TT := hide ((unhide TT).next hb9)
      have hown2 := hide (ownsRow_next (unhide hown2) hb9)
      have hB := below_step hB hB.size hb9
      clear hb9
      have hown3 := unhide hown2
      have hsz := hB.size
      go_wp2_with (at_builtin; refine wpList_append_own _ rfl _ _ 32 rfl w.heap.size 3 i0 (.int .i64 0) 1 8 Tryd.underlying32 hi hz0 hz1 hz2 rfl (by decide) _ _ _ rfl (hown3.alloc _) ⟨w9.heap.size, 0, none⟩ 1 1 [.int .i64 4] rfl rfl (cell_one_new _ _ _) (by simp [Value.oneCell']) (by unfold maxLen; omega) (by omega) (by simp; omega) ?_; intro v' w5 hown' hgrow _)
      obtain ⟨a1, a2⟩ := appendedE hown3 hB hown' hgrow
      rw [hm1] at a1
      have hs5 := hide (sl_of_owns a1)
      have T5 := hide (Tab.next (unhide T0) a2)
      clear hown' hgrow hown3 a1
      go_wp2_with fail
      refine (fit_v k (by omega) _ _ (fit_w hn0) _ _ (unhide T5) (unhide hs5)).mono ?_
      rintro q w10 ⟨rfl, hb10⟩
      have T6 := hide ((unhide T5).next hb10)
      have hB10 := below_step a2 a2.size hb10
      go_wp2_with fail
      refine (awake_ok _ (unhide T6)).mono ?_
      rintro q w11 ⟨rfl, hb11⟩
      go_wp2
      go_ret
      exact ⟨rfl, below_step hB10 hB10.size hb11⟩

end Go.Proofs.YtijhndmmljicmaaDoor
