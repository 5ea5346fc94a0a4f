/- MoesiKeeps, walked: a line that is to be read; the law. -/
import Derived.Test.YtijhndmmljicmaaDoorKW
import Derived.WalkKit
import Derived.WalkSpells
import Derived.ProofKit
import Derived.Outline
import Derived.Handy
import Derived.RowKit3
import Derived.BigQuiet
import Derived.Deep.QuietTactic
import Derived.Deep.RegionHeld3
import Derived.IntWalk
import Derived.LoopTactic
import Derived.OwnWalk
import Derived.Laws.AppendOwn
import Derived.Laws.OwnMore
import Derived.Maps.AppendAt
namespace Go.Proofs.YtijhndmmljicmaaDoor
open Go.RowKit
set_option linter.unusedVariables false
set_option maxRecDepth 100000

set_option maxHeartbeats 16000000 in
theorem keeps_r (n : Nat) (hn : n ≤ 20) (hn0 : 0 < n) (x : Int) (f : Nat → Int) (bb off c : Nat) (w : World) (T : Tab w) (hb : bb < w.heap.size) (hc : ∀ j, j < n → w.cell? ⟨bb, off + j, none⟩ = some (.int .i64 (f j))) (hf : fitB f n = true) (r : Nat) (hr : (x.tmod n + n) % n = (r : Int)) (hrn : r < n) :
    Calls Tryd.prog 7 #[.slice (some ⟨bb, off, none⟩) n c, .int .i64 x, .bool false] w fun r w' => r = .returned (.bool true) ∧ Below w.heap.size w w' := by
  have hS := hide (show Sl w (.slice (some ⟨bb, off, none⟩) n c) n f from .inr ⟨bb, off, c, rfl, hb, hc⟩)
  replace hc := hide hc
  replace hf := hide hf
  have TT := hide T
  have T0 := hide T
  clear T
  have e0 : ((n : Int) == 0) = false := by simp; omega
  have e20 : ¬ 20 < (n : Int) := by omega
  have ht1 : -(n : Int) < x.tmod n := by have := Int.lt_tmod_of_pos x (show (0 : Int) < n by omega); omega
  have ht2 : x.tmod n < n := Int.tmod_lt_of_pos x (by omega)
  have hri : (r : Int) < n := by omega
  obtain ⟨i0, hi, hz0, hz1, hz2⟩ := info_parts info3
  have e2 : (x.tmod n + n) % n = (r : Int) := hr
  replace hr := hide hr
  go_enter Tryd.func7, Tryd.ntmps7
  go_wp2_with fail
  refine (fit_v n (by omega) f _ hf.out _ _ (unhide TT) (unhide hS)).mono ?_
  rintro q w1 ⟨rfl, hb1⟩
  have TT := hide ((unhide TT).next hb1)
  have q1 := hb1
  clear e2
  go_wp2
  try rw [show (x.tmod (n : Int) + (n : Int)) % (n : Int) = (r : Int) from hr.out]
  try simp only [show x.tmod (n : Int) % (n : Int) = (r : Int) from by simpa using hr.out]
  go_loopw [10, 11, 12, 13] (fun v10 v11 v12 v13 wr => KrRel n f r w v10 v11 v12 v13 wr) (fun _ _ _ v13 _ => n - (intOf v13).toNat)
  case atStart => exact ⟨0, Nat.zero_le _, rfl, by simp only [mN, Nat.zero_le, if_true]; exact World.ownsRow_nil _ _ _ _, rfl, rfl, q1⟩
  case round =>
    obtain ⟨k, hk, rfl, hown, rfl, rfl, hB⟩ := hrel
    have hmn := mN_le r k
    have l1 := cnt_le owB (setF f r 0) k
    have l2 := cnt_le diB (setF f r 0) k
    replace hown := hide hown
    clear TT
    have TT := hide (Tab.next (unhide T0) hB)
    by_cases hlt : k < n
    · by_cases hkr : k = r
      · have hne : ((k : Int) == (r : Int)) = true := by simp; omega
        have hne3 : (k == r) = true := by simp; omega
        replace hkr := hide hkr
        go_wp2
        go_roundw
        case rel => exact ⟨k + 1, by omega, int_eq (by omega), by rw [hkr.out, mN_self]; rw [hkr.out] at hown; exact unhide hown, int_eq (cnt_f (by rw [hkr.out]; exact set_self (by decide))), rfl, hB⟩
        case measure => simp [intOf]; omega
      · have hne : ((k : Int) == (r : Int)) = false := by simp; omega
        have hne3 : (k == r) = false := by simp; omega
        have hx : wr.cell? ⟨bb, off + k, none⟩ = some (.int .i64 (f k)) := cell_next hB hb (hc.out k hlt)
        rcases val_of (all_at ((fit_iff f n).1 hf.out).1 hlt) with hv | hv | hv | hv | hv
        ·
          rw [hv] at hx
          replace hv := hide hv
          go_wp2_with fail
          refine (probe_0_1 _ (unhide TT)).mono ?_
          rintro q w3 ⟨rfl, hb3⟩
          have TT := hide ((unhide TT).next hb3)
          have hown := hide (ownsRow_next (unhide hown) hb3)
          have hB3 := below_step hB hB.size hb3
          have hown1 := unhide hown
          have hsz := hB3.size
          go_wp2_with (at_builtin; refine wpList_append_own _ rfl _ _ 32 rfl w.heap.size 3 i0 (.int .i64 0) 1 8 Tryd.underlying32 hi hz0 hz1 hz2 rfl (by decide) _ _ _ rfl (hown1.alloc _) ⟨w3.heap.size, 0, none⟩ 1 1 [.int .i64 0] rfl rfl (cell_one_new _ _ _) (by simp [Value.oneCell']) (by have := hmn; unfold maxLen; omega) (by have := hmn; omega) (by simp; omega) ?_; intro v' w5 hown' hgrow _)
          obtain ⟨a1, a2⟩ := appended' (g := (oth1 f r)) (by unfold oth1; rw [sk_mN hkr, hv.out]; decide) hown1 hB3 hown' hgrow
          clear hown' hgrow hown1 hown
          replace a1 := hide a1
          go_wp2
          go_roundw
          case rel => exact ⟨k + 1, by omega, int_eq (by omega), by rw [mN_step hkr]; exact unhide a1, int_eq (cnt_f (set_ne hkr hv.out (by decide))), rfl, a2⟩
          case measure => simp [intOf]; omega
        ·
          rw [hv] at hx
          replace hv := hide hv
          go_wp2_with fail
          refine (probe_1_1 _ (unhide TT)).mono ?_
          rintro q w3 ⟨rfl, hb3⟩
          have TT := hide ((unhide TT).next hb3)
          have hown := hide (ownsRow_next (unhide hown) hb3)
          have hB3 := below_step hB hB.size hb3
          have hown1 := unhide hown
          have hsz := hB3.size
          go_wp2_with (at_builtin; refine wpList_append_own _ rfl _ _ 32 rfl w.heap.size 3 i0 (.int .i64 0) 1 8 Tryd.underlying32 hi hz0 hz1 hz2 rfl (by decide) _ _ _ rfl (hown1.alloc _) ⟨w3.heap.size, 0, none⟩ 1 1 [.int .i64 1] rfl rfl (cell_one_new _ _ _) (by simp [Value.oneCell']) (by have := hmn; unfold maxLen; omega) (by have := hmn; omega) (by simp; omega) ?_; intro v' w5 hown' hgrow _)
          obtain ⟨a1, a2⟩ := appended' (g := (oth1 f r)) (by unfold oth1; rw [sk_mN hkr, hv.out]; decide) hown1 hB3 hown' hgrow
          clear hown' hgrow hown1 hown
          replace a1 := hide a1
          go_wp2
          go_roundw
          case rel => exact ⟨k + 1, by omega, int_eq (by omega), by rw [mN_step hkr]; exact unhide a1, int_eq (cnt_f (set_ne hkr hv.out (by decide))), rfl, a2⟩
          case measure => simp [intOf]; omega
        ·
          rw [hv] at hx
          replace hv := hide hv
          go_wp2_with fail
          refine (probe_2_1 _ (unhide TT)).mono ?_
          rintro q w3 ⟨rfl, hb3⟩
          have TT := hide ((unhide TT).next hb3)
          have hown := hide (ownsRow_next (unhide hown) hb3)
          have hB3 := below_step hB hB.size hb3
          have hown1 := unhide hown
          have hsz := hB3.size
          go_wp2_with (at_builtin; refine wpList_append_own _ rfl _ _ 32 rfl w.heap.size 3 i0 (.int .i64 0) 1 8 Tryd.underlying32 hi hz0 hz1 hz2 rfl (by decide) _ _ _ rfl (hown1.alloc _) ⟨w3.heap.size, 0, none⟩ 1 1 [.int .i64 1] rfl rfl (cell_one_new _ _ _) (by simp [Value.oneCell']) (by have := hmn; unfold maxLen; omega) (by have := hmn; omega) (by simp; omega) ?_; intro v' w5 hown' hgrow _)
          obtain ⟨a1, a2⟩ := appended' (g := (oth1 f r)) (by unfold oth1; rw [sk_mN hkr, hv.out]; decide) hown1 hB3 hown' hgrow
          clear hown' hgrow hown1 hown
          replace a1 := hide a1
          go_wp2
          go_roundw
          case rel => exact ⟨k + 1, by omega, int_eq (by omega), by rw [mN_step hkr]; exact unhide a1, int_eq (cnt_t (set_ne hkr hv.out (by decide))), rfl, a2⟩
          case measure => simp [intOf]; omega
        ·
          rw [hv] at hx
          replace hv := hide hv
          go_wp2_with fail
          refine (probe_3_1 _ (unhide TT)).mono ?_
          rintro q w3 ⟨rfl, hb3⟩
          have TT := hide ((unhide TT).next hb3)
          have hown := hide (ownsRow_next (unhide hown) hb3)
          have hB3 := below_step hB hB.size hb3
          go_wp2_with fail
          refine (dirty_v 3 true (by decide) _ (unhide TT)).mono ?_
          rintro q w4 ⟨rfl, hb4⟩
          have TT := hide ((unhide TT).next hb4)
          have hown := hide (ownsRow_next (unhide hown) hb4)
          have hB4 := below_step hB3 hB3.size hb4
          have hown1 := unhide hown
          have hsz := hB4.size
          go_wp2_with (at_builtin; refine wpList_append_own _ rfl _ _ 32 rfl w.heap.size 3 i0 (.int .i64 0) 1 8 Tryd.underlying32 hi hz0 hz1 hz2 rfl (by decide) _ _ _ rfl (hown1.alloc _) ⟨w4.heap.size, 0, none⟩ 1 1 [.int .i64 3] rfl rfl (cell_one_new _ _ _) (by simp [Value.oneCell']) (by have := hmn; unfold maxLen; omega) (by have := hmn; omega) (by simp; omega) ?_; intro v' w5 hown' hgrow _)
          obtain ⟨a1, a2⟩ := appended' (g := (oth1 f r)) (by unfold oth1; rw [sk_mN hkr, hv.out]; decide) hown1 hB4 hown' hgrow
          clear hown' hgrow hown1 hown
          replace a1 := hide a1
          go_wp2
          go_roundw
          case rel => exact ⟨k + 1, by omega, int_eq (by omega), by rw [mN_step hkr]; exact unhide a1, int_eq (cnt_t (set_ne hkr hv.out (by decide))), rfl, a2⟩
          case measure => simp [intOf]; omega
        ·
          rw [hv] at hx
          replace hv := hide hv
          go_wp2_with fail
          refine (probe_4_1 _ (unhide TT)).mono ?_
          rintro q w3 ⟨rfl, hb3⟩
          have TT := hide ((unhide TT).next hb3)
          have hown := hide (ownsRow_next (unhide hown) hb3)
          have hB3 := below_step hB hB.size hb3
          go_wp2_with fail
          refine (dirty_v 3 true (by decide) _ (unhide TT)).mono ?_
          rintro q w4 ⟨rfl, hb4⟩
          have TT := hide ((unhide TT).next hb4)
          have hown := hide (ownsRow_next (unhide hown) hb4)
          have hB4 := below_step hB3 hB3.size hb4
          have hown1 := unhide hown
          have hsz := hB4.size
          go_wp2_with (at_builtin; refine wpList_append_own _ rfl _ _ 32 rfl w.heap.size 3 i0 (.int .i64 0) 1 8 Tryd.underlying32 hi hz0 hz1 hz2 rfl (by decide) _ _ _ rfl (hown1.alloc _) ⟨w4.heap.size, 0, none⟩ 1 1 [.int .i64 3] rfl rfl (cell_one_new _ _ _) (by simp [Value.oneCell']) (by have := hmn; unfold maxLen; omega) (by have := hmn; omega) (by simp; omega) ?_; intro v' w5 hown' hgrow _)
          obtain ⟨a1, a2⟩ := appended' (g := (oth1 f r)) (by unfold oth1; rw [sk_mN hkr, hv.out]; decide) hown1 hB4 hown' hgrow
          clear hown' hgrow hown1 hown
          replace a1 := hide a1
          go_wp2
          go_roundw
          case rel => exact ⟨k + 1, by omega, int_eq (by omega), by rw [mN_step hkr]; exact unhide a1, int_eq (cnt_t (set_ne hkr hv.out (by decide))), rfl, a2⟩
          case measure => simp [intOf]; omega
    · obtain rfl : k = n := by omega
      have hown1 := unhide hown
      rw [mN_end hrn] at hown1
      have hs1 := hide (sl_of_owns hown1)
      have t1 := told_le (r := r) hf.out
      have t2 := dirty_le (r := r) hf.out
      have hm1 : k - 1 + 1 = k := by omega
      have hown2 := hide hown1
      clear hown1 hown
      cases hz : allF nvB (oth1 f r) (k - 1)
      ·
        have hgr := gr_r hf.out hrn false hz
        replace hz := hide hz
        replace hgr := hide hgr
        go_wp2_with fail
        refine (granted_v 1 (k - 1) (by omega) (oth1 f r) 1 0 hgr.out.1 hgr.out.2 _ _ (unhide TT) (unhide hs1)).mono ?_
        rintro q w9 ⟨rfl, hb9⟩
        have TT := hide ((unhide TT).next hb9)
        have hown2 := hide (ownsRow_next (unhide hown2) hb9)
        have hB := below_step hB hB.size hb9
        clear hb9
        go_wp2_with fail
        refine (load_v 1 true (by decide) _ (unhide TT)).mono ?_
        rintro q w9 ⟨rfl, hb9⟩
        have TT := hide ((unhide TT).next hb9)
        have hown2 := hide (ownsRow_next (unhide hown2) hb9)
        have hB := below_step hB hB.size hb9
        clear hb9
        have hxr := cell_next hB hb (hc.out r hrn)
        by_cases h0 : vaB (f r) = true
        · replace h0 := hide h0
          go_wp2_with fail
          refine (valid_v (f r) true h0.out _).mono ?_
          rintro q w12 ⟨rfl, rfl⟩
          go_wp2_with fail
          refine (awake_ok _ (unhide TT)).mono ?_
          rintro q w11 ⟨rfl, hb11⟩
          go_wp2
          go_ret
          exact ⟨rfl, below_step hB hB.size hb11⟩
        · have h1 : vaB (f r) = false := by simpa using h0
          replace h1 := hide h1
          clear h0
          go_wp2_with fail
          refine (valid_v (f r) false h1.out _).mono ?_
          rintro q w12 ⟨rfl, rfl⟩
          have hown3 := unhide hown2
          have hsz := hB.size
          go_wp2_with (at_builtin; refine wpList_append_own _ rfl _ _ 32 rfl w.heap.size 3 i0 (.int .i64 0) 1 8 Tryd.underlying32 hi hz0 hz1 hz2 rfl (by decide) _ _ _ rfl (hown3.alloc _) ⟨w9.heap.size, 0, none⟩ 1 1 [.int .i64 1] rfl rfl (cell_one_new _ _ _) (by simp [Value.oneCell']) (by unfold maxLen; omega) (by omega) (by simp; omega) ?_; intro v' w5 hown' hgrow _)
          obtain ⟨a1, a2⟩ := appendedE hown3 hB hown' hgrow
          rw [hm1] at a1
          have hs5 := hide (sl_of_owns a1)
          have T5 := hide (Tab.next (unhide T0) a2)
          clear hown' hgrow hown3 a1
          go_wp2_with fail
          refine (fit_v k (by omega) _ _ (fit_r1 hf.out hrn) _ _ (unhide T5) (unhide hs5)).mono ?_
          rintro q w10 ⟨rfl, hb10⟩
          have T6 := hide ((unhide T5).next hb10)
          have hB10 := below_step a2 a2.size hb10
          go_wp2_with fail
          refine (awake_ok _ (unhide T6)).mono ?_
          rintro q w11 ⟨rfl, hb11⟩
          go_wp2
          go_ret
          exact ⟨rfl, below_step hB10 hB10.size hb11⟩
      ·
        have hgr := gr_r hf.out hrn true hz
        replace hz := hide hz
        replace hgr := hide hgr
        go_wp2_with fail
        refine (granted_v 1 (k - 1) (by omega) (oth1 f r) 2 0 hgr.out.1 hgr.out.2 _ _ (unhide TT) (unhide hs1)).mono ?_
        rintro q w9 ⟨rfl, hb9⟩
        have TT := hide ((unhide TT).next hb9)
        have hown2 := hide (ownsRow_next (unhide hown2) hb9)
        have hB := below_step hB hB.size hb9
        clear hb9
        go_wp2_with fail
        refine (load_v 2 true (by decide) _ (unhide TT)).mono ?_
        rintro q w9 ⟨rfl, hb9⟩
        have TT := hide ((unhide TT).next hb9)
        have hown2 := hide (ownsRow_next (unhide hown2) hb9)
        have hB := below_step hB hB.size hb9
        clear hb9
        have hxr := cell_next hB hb (hc.out r hrn)
        by_cases h0 : vaB (f r) = true
        · replace h0 := hide h0
          go_wp2_with fail
          refine (valid_v (f r) true h0.out _).mono ?_
          rintro q w12 ⟨rfl, rfl⟩
          go_wp2_with fail
          refine (awake_ok _ (unhide TT)).mono ?_
          rintro q w11 ⟨rfl, hb11⟩
          go_wp2
          go_ret
          exact ⟨rfl, below_step hB hB.size hb11⟩
        · have h1 : vaB (f r) = false := by simpa using h0
          replace h1 := hide h1
          clear h0
          go_wp2_with fail
          refine (valid_v (f r) false h1.out _).mono ?_
          rintro q w12 ⟨rfl, rfl⟩
          have hown3 := unhide hown2
          have hsz := hB.size
          go_wp2_with (at_builtin; refine wpList_append_own _ rfl _ _ 32 rfl w.heap.size 3 i0 (.int .i64 0) 1 8 Tryd.underlying32 hi hz0 hz1 hz2 rfl (by decide) _ _ _ rfl (hown3.alloc _) ⟨w9.heap.size, 0, none⟩ 1 1 [.int .i64 2] rfl rfl (cell_one_new _ _ _) (by simp [Value.oneCell']) (by unfold maxLen; omega) (by omega) (by simp; omega) ?_; intro v' w5 hown' hgrow _)
          obtain ⟨a1, a2⟩ := appendedE hown3 hB hown' hgrow
          rw [hm1] at a1
          have hs5 := hide (sl_of_owns a1)
          have T5 := hide (Tab.next (unhide T0) a2)
          clear hown' hgrow hown3 a1
          go_wp2_with fail
          refine (fit_v k (by omega) _ _ (fit_r2 hf.out hrn hz.out) _ _ (unhide T5) (unhide hs5)).mono ?_
          rintro q w10 ⟨rfl, hb10⟩
          have T6 := hide ((unhide T5).next hb10)
          have hB10 := below_step a2 a2.size hb10
          go_wp2_with fail
          refine (awake_ok _ (unhide T6)).mono ?_
          rintro q w11 ⟨rfl, hb11⟩
          go_wp2
          go_ret
          exact ⟨rfl, below_step hB10 hB10.size hb11⟩


theorem keeps_none (a : Option Addr) (n c : Nat) (hm : n ≤ 9223372036854775807) (hn : n = 0 ∨ 20 < n) (x : Int) (wr : Bool) (w : World) (T : Tab w) : Calls Tryd.prog 7 #[.slice a n c, .int .i64 x, .bool wr] w fun r w' => r = .returned (.bool true) ∧ Below w.heap.size w w' := by
  have TT := hide T
  clear T
  rcases hn with rfl | hn
  · go_enter Tryd.func7, Tryd.ntmps7
    go_wp2_with fail
    refine (awake_ok _ (unhide TT)).mono ?_
    rintro r w4 ⟨rfl, hb4⟩
    go_wp2
    go_ret
    exact ⟨rfl, hb4⟩
  · go_enter Tryd.func7, Tryd.ntmps7
    go_wp2_with fail
    refine (awake_ok _ (unhide TT)).mono ?_
    rintro r w4 ⟨rfl, hb4⟩
    go_wp2
    go_ret
    exact ⟨rfl, hb4⟩
theorem keeps_law (sv : Value) (x : Int) (wr : Bool) (w : World) (T : Tab w) (h : In w sv) : Calls Tryd.prog 7 #[sv, .int .i64 x, .bool wr] w fun r w' => r = .returned (.bool true) ∧ Below w.heap.size w w' := by
  obtain ⟨a, n, c, rfl, hm, f, hs⟩ := h
  unfold maxLen at hm
  by_cases hn : n = 0 ∨ 20 < n
  · exact keeps_none a n c (by omega) hn x wr w T
  · rcases hs with ⟨rfl, a', c', e⟩ | ⟨b, off, c', e, hb, hc⟩
    · exact absurd (.inl rfl) hn
    · cases e
      cases hf : fitB f n
      · exact keeps_unfit n (by omega) (by omega) x f b off c w T hb hc hf wr
      · obtain ⟨r, hr, hrn⟩ := rot_of x (show 0 < n by omega)
        cases wr
        · exact keeps_r n (by omega) (by omega) x f b off c w T hb hc hf r hr hrn
        · exact keeps_w n (by omega) (by omega) x f b off c w T hb hc hf r hr hrn
end Go.Proofs.YtijhndmmljicmaaDoor
