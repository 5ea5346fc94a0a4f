/- MoesiStores, walked. -/
import Derived.Test.YtijhndmmljicmaaDoorFT
import Derived.WalkKit
import Derived.WalkSpells
import Derived.ProofKit
import Derived.Outline
import Derived.Handy
import Derived.RowKit3
import Derived.BigQuiet
import Derived.Deep.QuietTactic
import Derived.Deep.RegionHeld3
import Derived.IntWalk
import Derived.LoopTactic
import Derived.OwnWalk
import Derived.Laws.AppendOwn
import Derived.Laws.OwnMore
import Derived.Maps.AppendAt
namespace Go.Proofs.YtijhndmmljicmaaDoor
open Go.RowKit
set_option linter.unusedVariables false
set_option maxRecDepth 100000

theorem cnt_only {p : Int → Bool} {f : Nat → Int} {n r : Nat} (h : ∀ k, k < n → k ≠ r → p (f k) = false) : cntF p f n ≤ 1 := by
  by_cases hr : r < n
  · have a := cnt_add p f (r + 1) (n - (r + 1))
    rw [show r + 1 + (n - (r + 1)) = n by omega] at a
    have b1 : cntF p f r = 0 := cnt_zero fun k hk => h k (by omega) (by omega)
    have b2 : cntF p (fun j => f (r + 1 + j)) (n - (r + 1)) = 0 := cnt_zero fun k hk => h (r + 1 + k) (by omega) (by omega)
    rw [a, b2, cnt_succ, b1]
    split <;> omega
  · rw [cnt_zero fun k hk => h k hk (by omega)]; omega
/-- Where a line may be written it is there alone. -/
theorem alone_of {f : Nat → Int} {n r : Nat} (h : fitB f n = true) (hr : r < n) (hs : stB (f r) = true) {k : Nat} (hk : k < n) (hne : k ≠ r) : vaB (f k) = false := by
  obtain ⟨ha, ho, hc⟩ := (fit_iff f n).1 h
  cases e : vaB (f k)
  · rfl
  · exfalso
    have c1 := cnt_one hr hs
    have c2 : 2 ≤ cntF vaB f n := by
      rcases Nat.lt_or_gt_of_ne hne with q | q
      · exact cnt_two q hr e (va_of_st hs)
      · exact cnt_two q hk (va_of_st hs) e
    omega
theorem zero_of {f : Nat → Int} {n r : Nat} (h : fitB f n = true) (hr : r < n) (hs : stB (f r) = true) {k : Nat} (hk : k < n) (hne : k ≠ r) : f k = 0 := by
  by_cases q : f k = 0
  · exact q
  · have := va_of (all_at ((fit_iff f n).1 h).1 hk) q
    rw [alone_of h hr hs hk hne] at this
    cases this
def setF (f : Nat → Int) (r : Nat) (v : Int) : Nat → Int := fun j => if j = r then v else f j
theorem fit_only {g : Nat → Int} {n r : Nat} (hr : r < n) (hg : isB (g r) = true) (hz : ∀ k, k < n → k ≠ r → g k = 0) : fitB g n = true := by
  have hb : ∀ k, k < n → isB (g k) = true := fun k hk => by
    by_cases e : k = r
    · rw [e]; exact hg
    · rw [hz k hk e]; rfl
  refine (fit_iff g n).2 ⟨all_of hb, cnt_only (r := r) fun k hk hne => by rw [hz k hk hne]; rfl, ?_⟩
  by_cases q : vaB (g r) = true
  · right
    have c1 := cnt_one hr q
    have c2 : cntF vaB g n ≤ 1 := cnt_only (r := r) fun k hk hne => by rw [hz k hk hne]; rfl
    omega
  · left
    refine cnt_zero fun k hk => ?_
    by_cases e : k = r
    · subst e
      cases s : stB (g k)
      · rfl
      · exact absurd (va_of_st s) q
    · rw [hz k hk e]; rfl
theorem fit_set {f : Nat → Int} {n r : Nat} (h : fitB f n = true) (hr : r < n) (hs : stB (f r) = true) (v : Int) (hv : isB v = true) : fitB (setF f r v) n = true :=
  fit_only hr (by simp [setF, hv]) fun k hk hne => by simp [setF, hne, zero_of h hr hs hk hne]
theorem cellsOf_set (f : Nat → Int) (n r : Nat) (v : Int) : (cellsOf f n).set r (.int .i64 v) = cellsOf (setF f r v) n := by
  apply List.ext_getElem?
  intro j
  rw [List.getElem?_set]
  simp only [cellsOf, List.length_map, List.length_range, List.getElem?_map]
  by_cases e : r = j
  · subst e
    by_cases q : r < n
    · simp [q, setF]
    · simp [q]
  · by_cases q : j < n
    · simp [q, setF, Ne.symm e, e]
    · simp [q, e]
theorem cellsOf_len (f : Nat → Int) (n : Nat) : (cellsOf f n).length = n := by simp [cellsOf]
theorem cellsOf_one (f : Nat → Int) (n : Nat) : ∀ u ∈ cellsOf f n, u.oneCell' = true := by
  intro u hu
  simp only [cellsOf, List.mem_map] at hu
  obtain ⟨j, _, rfl⟩ := hu
  simp [Value.oneCell']
theorem news_of {w : World} {bb off n : Nat} {f : Nat → Int} (hc : ∀ j, j < n → w.cell? ⟨bb, off + j, none⟩ = some (.int .i64 (f j))) : ∀ j u, (cellsOf f n)[j]? = some u → w.cell? ((⟨bb, off, none⟩ : Addr).add j) = some u := by
  intro j u hu
  have hj : j < n := by
    have := (List.getElem?_eq_some_iff.1 hu).1
    rwa [cellsOf_len] at this
  rw [cellsOf_at f hj] at hu
  have h2 : (⟨bb, off, none⟩ : Addr).add j = ⟨bb, off + j, none⟩ := by unfold Addr.add; split <;> simp_all
  rw [h2, hc j hj, hu]
theorem owns_form {w : World} {base size n : Nat} {e : TypeId} {v : Value} {xs : List Value} (h : w.ownsRow base e size v n xs) (hn : 0 < n) : ∃ g cap, v = .slice (some ⟨g, 0, none⟩) n cap := by
  rcases h.2 with ⟨_, h0⟩ | ⟨g, cap, _, hv, _⟩
  · omega
  · exact ⟨g, cap, hv⟩

set_option maxHeartbeats 8000000 in
theorem stores_unfit (n : Nat) (hn : n ≤ 20) (hn0 : 0 < n) (x : Int) (f : Nat → Int) (bb off c : Nat) (w : World) (T : Tab w) (hb : bb < w.heap.size) (hc : ∀ j, j < n → w.cell? ⟨bb, off + j, none⟩ = some (.int .i64 (f j))) (hf : fitB f n = false)  :
    Calls Tryd.prog 8 #[.slice (some ⟨bb, off, none⟩) n c, .int .i64 x] w fun r w' => r = .returned (.bool true) ∧ Below w.heap.size w w' := by
  have hS := hide (show Sl w (.slice (some ⟨bb, off, none⟩) n c) n f from .inr ⟨bb, off, c, rfl, hb, hc⟩)
  replace hc := hide hc
  replace hf := hide hf
  have TT := hide T
  have T0 := hide T
  clear T
  have e0 : ((n : Int) == 0) = false := by simp; omega
  have e20 : ¬ 20 < (n : Int) := by omega
  go_enter Tryd.func8, Tryd.ntmps8
  go_wp2_with fail
  refine (fit_v n (by omega) f _ hf.out _ _ (unhide TT) (unhide hS)).mono ?_
  rintro q w1 ⟨rfl, hb1⟩
  have TT := hide ((unhide TT).next hb1)
  go_wp2_with fail
  refine (awake_ok _ (unhide TT)).mono ?_
  rintro q w2 ⟨rfl, hb2⟩
  go_wp2
  go_ret
  exact ⟨rfl, below_step hb1 hb1.size hb2⟩

set_option maxHeartbeats 8000000 in
theorem stores_0 (n : Nat) (hn : n ≤ 20) (hn0 : 0 < n) (x : Int) (f : Nat → Int) (bb off c : Nat) (w : World) (T : Tab w) (hb : bb < w.heap.size) (hc : ∀ j, j < n → w.cell? ⟨bb, off + j, none⟩ = some (.int .i64 (f j))) (hf : fitB f n = true) (r : Nat) (hr : (x.tmod n + n) % n = (r : Int)) (hrn : r < n) (hv : f r = 0) :
    Calls Tryd.prog 8 #[.slice (some ⟨bb, off, none⟩) n c, .int .i64 x] w fun r w' => r = .returned (.bool true) ∧ Below w.heap.size w w' := by
  have hS := hide (show Sl w (.slice (some ⟨bb, off, none⟩) n c) n f from .inr ⟨bb, off, c, rfl, hb, hc⟩)
  replace hc := hide hc
  replace hf := hide hf
  have TT := hide T
  have T0 := hide T
  clear T
  have e0 : ((n : Int) == 0) = false := by simp; omega
  have e20 : ¬ 20 < (n : Int) := by omega
  have ht1 : -(n : Int) < x.tmod n := by have := Int.lt_tmod_of_pos x (show (0 : Int) < n by omega); omega
  have ht2 : x.tmod n < n := Int.tmod_lt_of_pos x (by omega)
  have hx : w.cell? ⟨bb, off + r, none⟩ = some (.int .i64 0) := by rw [hc.out r hrn, hv]
  replace hv := hide hv
  go_enter Tryd.func8, Tryd.ntmps8
  go_wp2_with fail
  refine (fit_v n (by omega) f _ hf.out _ _ (unhide TT) (unhide hS)).mono ?_
  rintro q w1 ⟨rfl, hb1⟩
  have TT := hide ((unhide TT).next hb1)
  have hx1 := cell_next hb1 hb hx
  have hb' := Nat.lt_of_lt_of_le hb hb1.size
  go_wp2_with fail
  refine (wrote_0 _ (unhide TT)).mono ?_
  rintro q w2 ⟨rfl, hb2⟩
  have TT := hide ((unhide TT).next hb2)
  have hx2 := cell_next hb2 hb' hx1
  go_wp2_with fail
  refine (store_v 0 false (by decide) _ (unhide TT)).mono ?_
  rintro q w3 ⟨rfl, hb3⟩
  have TT := hide ((unhide TT).next hb3)
  go_wp2_with fail
  refine (awake_ok _ (unhide TT)).mono ?_
  rintro q w4 ⟨rfl, hb4⟩
  go_wp2
  go_ret
  have q2 := below_step hb1 hb1.size hb2
  have q3 := below_step q2 q2.size hb3
  exact ⟨rfl, below_step q3 q3.size hb4⟩

set_option maxHeartbeats 8000000 in
theorem stores_1 (n : Nat) (hn : n ≤ 20) (hn0 : 0 < n) (x : Int) (f : Nat → Int) (bb off c : Nat) (w : World) (T : Tab w) (hb : bb < w.heap.size) (hc : ∀ j, j < n → w.cell? ⟨bb, off + j, none⟩ = some (.int .i64 (f j))) (hf : fitB f n = true) (r : Nat) (hr : (x.tmod n + n) % n = (r : Int)) (hrn : r < n) (hv : f r = 1) :
    Calls Tryd.prog 8 #[.slice (some ⟨bb, off, none⟩) n c, .int .i64 x] w fun r w' => r = .returned (.bool true) ∧ Below w.heap.size w w' := by
  have hS := hide (show Sl w (.slice (some ⟨bb, off, none⟩) n c) n f from .inr ⟨bb, off, c, rfl, hb, hc⟩)
  replace hc := hide hc
  replace hf := hide hf
  have TT := hide T
  have T0 := hide T
  clear T
  have e0 : ((n : Int) == 0) = false := by simp; omega
  have e20 : ¬ 20 < (n : Int) := by omega
  have ht1 : -(n : Int) < x.tmod n := by have := Int.lt_tmod_of_pos x (show (0 : Int) < n by omega); omega
  have ht2 : x.tmod n < n := Int.tmod_lt_of_pos x (by omega)
  have hx : w.cell? ⟨bb, off + r, none⟩ = some (.int .i64 1) := by rw [hc.out r hrn, hv]
  replace hv := hide hv
  go_enter Tryd.func8, Tryd.ntmps8
  go_wp2_with fail
  refine (fit_v n (by omega) f _ hf.out _ _ (unhide TT) (unhide hS)).mono ?_
  rintro q w1 ⟨rfl, hb1⟩
  have TT := hide ((unhide TT).next hb1)
  have hx1 := cell_next hb1 hb hx
  have hb' := Nat.lt_of_lt_of_le hb hb1.size
  go_wp2_with fail
  refine (wrote_1 _ (unhide TT)).mono ?_
  rintro q w2 ⟨rfl, hb2⟩
  have TT := hide ((unhide TT).next hb2)
  have hx2 := cell_next hb2 hb' hx1
  go_wp2_with fail
  refine (store_v 1 false (by decide) _ (unhide TT)).mono ?_
  rintro q w3 ⟨rfl, hb3⟩
  have TT := hide ((unhide TT).next hb3)
  go_wp2_with fail
  refine (awake_ok _ (unhide TT)).mono ?_
  rintro q w4 ⟨rfl, hb4⟩
  go_wp2
  go_ret
  have q2 := below_step hb1 hb1.size hb2
  have q3 := below_step q2 q2.size hb3
  exact ⟨rfl, below_step q3 q3.size hb4⟩

set_option maxHeartbeats 8000000 in
theorem stores_3 (n : Nat) (hn : n ≤ 20) (hn0 : 0 < n) (x : Int) (f : Nat → Int) (bb off c : Nat) (w : World) (T : Tab w) (hb : bb < w.heap.size) (hc : ∀ j, j < n → w.cell? ⟨bb, off + j, none⟩ = some (.int .i64 (f j))) (hf : fitB f n = true) (r : Nat) (hr : (x.tmod n + n) % n = (r : Int)) (hrn : r < n) (hv : f r = 3) :
    Calls Tryd.prog 8 #[.slice (some ⟨bb, off, none⟩) n c, .int .i64 x] w fun r w' => r = .returned (.bool true) ∧ Below w.heap.size w w' := by
  have hS := hide (show Sl w (.slice (some ⟨bb, off, none⟩) n c) n f from .inr ⟨bb, off, c, rfl, hb, hc⟩)
  replace hc := hide hc
  replace hf := hide hf
  have TT := hide T
  have T0 := hide T
  clear T
  have e0 : ((n : Int) == 0) = false := by simp; omega
  have e20 : ¬ 20 < (n : Int) := by omega
  have ht1 : -(n : Int) < x.tmod n := by have := Int.lt_tmod_of_pos x (show (0 : Int) < n by omega); omega
  have ht2 : x.tmod n < n := Int.tmod_lt_of_pos x (by omega)
  have hx : w.cell? ⟨bb, off + r, none⟩ = some (.int .i64 3) := by rw [hc.out r hrn, hv]
  replace hv := hide hv
  go_enter Tryd.func8, Tryd.ntmps8
  go_wp2_with fail
  refine (fit_v n (by omega) f _ hf.out _ _ (unhide TT) (unhide hS)).mono ?_
  rintro q w1 ⟨rfl, hb1⟩
  have TT := hide ((unhide TT).next hb1)
  have hx1 := cell_next hb1 hb hx
  have hb' := Nat.lt_of_lt_of_le hb hb1.size
  go_wp2_with fail
  refine (wrote_3 _ (unhide TT)).mono ?_
  rintro q w2 ⟨rfl, hb2⟩
  have TT := hide ((unhide TT).next hb2)
  have hx2 := cell_next hb2 hb' hx1
  go_wp2_with fail
  refine (store_v 3 false (by decide) _ (unhide TT)).mono ?_
  rintro q w3 ⟨rfl, hb3⟩
  have TT := hide ((unhide TT).next hb3)
  go_wp2_with fail
  refine (awake_ok _ (unhide TT)).mono ?_
  rintro q w4 ⟨rfl, hb4⟩
  go_wp2
  go_ret
  have q2 := below_step hb1 hb1.size hb2
  have q3 := below_step q2 q2.size hb3
  exact ⟨rfl, below_step q3 q3.size hb4⟩

set_option maxHeartbeats 8000000 in
theorem stores_2 (n : Nat) (hn : n ≤ 20) (hn0 : 0 < n) (x : Int) (f : Nat → Int) (bb off c : Nat) (w : World) (T : Tab w) (hb : bb < w.heap.size) (hc : ∀ j, j < n → w.cell? ⟨bb, off + j, none⟩ = some (.int .i64 (f j))) (hf : fitB f n = true) (r : Nat) (hr : (x.tmod n + n) % n = (r : Int)) (hrn : r < n) (hv : f r = 2) :
    Calls Tryd.prog 8 #[.slice (some ⟨bb, off, none⟩) n c, .int .i64 x] w fun r w' => r = .returned (.bool true) ∧ Below w.heap.size w w' := by
  have hS := hide (show Sl w (.slice (some ⟨bb, off, none⟩) n c) n f from .inr ⟨bb, off, c, rfl, hb, hc⟩)
  replace hc := hide hc
  replace hf := hide hf
  have TT := hide T
  have T0 := hide T
  clear T
  have e0 : ((n : Int) == 0) = false := by simp; omega
  have e20 : ¬ 20 < (n : Int) := by omega
  have ht1 : -(n : Int) < x.tmod n := by have := Int.lt_tmod_of_pos x (show (0 : Int) < n by omega); omega
  have ht2 : x.tmod n < n := Int.tmod_lt_of_pos x (by omega)
  have hx : w.cell? ⟨bb, off + r, none⟩ = some (.int .i64 2) := by rw [hc.out r hrn, hv]
  have hst := hide (show stB (f r) = true by rw [hv]; decide)
  have hr2 : x.tmod n % n = (r : Int) := by simpa using hr
  replace hr := hide hr
  replace hv := hide hv
  have hri : (r : Int) < n := by omega
  obtain ⟨i0, hi, hz0, hz1, hz2⟩ := info_parts info3
  go_enter Tryd.func8, Tryd.ntmps8
  go_wp2_with fail
  refine (fit_v n (by omega) f _ hf.out _ _ (unhide TT) (unhide hS)).mono ?_
  rintro q w1 ⟨rfl, hb1⟩
  have TT := hide ((unhide TT).next hb1)
  have hx1 := cell_next hb1 hb hx
  have hb' := Nat.lt_of_lt_of_le hb hb1.size
  go_wp2_with fail
  refine (wrote_2 _ (unhide TT)).mono ?_
  rintro q w2 ⟨rfl, hb2⟩
  have TT := hide ((unhide TT).next hb2)
  have q2 := below_step hb1 hb1.size hb2
  have hcw := hide (fun j (hj : j < n) => cell_next q2 hb (hc.out j hj))
  replace hr2 := hide hr2
  clear hx hx1 hb1 hb2
  rw [show (x.tmod (n : Int) + (n : Int)) % (n : Int) = (r : Int) from hr.out]
  go_wp2
  go_loop [8] (fun v8 => ∃ k : Nat, k ≤ n ∧ v8 = .int .i64 k) (fun v8 => n - (intOf v8).toNat)
  case atStart => exact ⟨0, Nat.zero_le _, rfl⟩
  case round =>
    obtain ⟨k, hk, rfl⟩ := hrel
    by_cases hlt : k < n
    · by_cases hkr : k = r
      · have hne : ((k : Int) != (r : Int)) = false := by simp; omega
        have hne2 : (k != r) = false := by simp; omega
        have hne3 : (k == r) = true := by simp; omega
        have hne4 : ((k : Int) == (r : Int)) = true := by simp; omega
        replace hkr := hide hkr
        go_wp2
        go_round
        case rel => exact ⟨k + 1, by omega, int_eq (by omega)⟩
        case measure => simp [intOf]; omega
      · have hne : ((k : Int) != (r : Int)) = true := by simp; omega
        have hne2 : (k != r) = true := by simp; omega
        have hne3 : (k == r) = false := by simp; omega
        have hne4 : ((k : Int) == (r : Int)) = false := by simp; omega
        have hy := hcw.out k hlt
        go_wp2_with fail
        refine (valid_v (f k) false (alone_of hf.out hrn hst.out hlt hkr) _).mono ?_
        rintro q w4 ⟨rfl, rfl⟩
        go_wp2
        go_round
        case rel => exact ⟨k + 1, by omega, int_eq (by omega)⟩
        case measure => simp [intOf]; omega
    · obtain rfl : k = n := by omega
      have hw0 := q2.size
      go_wp2_with (at_builtin; refine wpList_append_own _ rfl _ _ 32 rfl w.heap.size 3 i0 (.int .i64 0) 1 8 Tryd.underlying32 hi hz0 hz1 hz2 rfl (by decide) _ _ _ rfl (World.ownsRow_nil _ _ _ _) ⟨bb, off, none⟩ k c (cellsOf f k) rfl (by simp [cellsOf]) (news_of hcw.out) (cellsOf_one f k) (by unfold maxLen; omega) (by omega) hw0 ?_; intro v' w3 hown' hgrow _; obtain ⟨g, cap, rfl⟩ := owns_form hown' (by omega); simp only [Nat.zero_add, List.nil_append] at hown'; have hcell : w3.cell? ⟨g, r, none⟩ = some (.int .i64 (f r)) := (hown'.cellAt r (by omega)).trans (cellsOf_at f hrn); have hfz := hown'.frozenAt r)
      have hgrow' : w2.grownBy w3 (Value.slice none 0 0).ownBlock := hgrow
      have q3 : Below w.heap.size w w3 := q2.grown hgrow' hw0 (fun j hj => by cases hj)
      have hgl := (hown'.lt g rfl)
      have own2 := (hown'.stored r (.int .i64 4)).1
      rw [cellsOf_set] at own2
      have q4 : Below w.heap.size w (w3.setCell ⟨g, r, none⟩ (.int .i64 4)) := q3.setCell (p := ⟨g, r, none⟩) hgl.1 _
      have hs4 := hide (sl_of_owns own2)
      have hT4 := hide (Tab.next (w := w) (show Tab w from unhide T0) q4)
      have hft := hide (fit_set hf.out hrn hst.out 4 (by decide))
      clear hown' own2 hcell hfz hgrow hgrow'
      go_wp2_with fail
      refine (fit_v k (by omega) _ _ hft.out _ _ (unhide hT4) (unhide hs4)).mono ?_
      rintro q w5 ⟨rfl, hb5⟩
      have TT := hide ((unhide hT4).next hb5)
      have q5 := below_step q4 q4.size hb5
      go_wp2_with fail
      refine (dirty_v 4 true (by decide) _ (unhide TT)).mono ?_
      rintro q w6 ⟨rfl, hb6⟩
      have TT := hide ((unhide TT).next hb6)
      have q6 := below_step q5 q5.size hb6
      go_wp2_with fail
      refine (store_v 4 true (by decide) _ (unhide TT)).mono ?_
      rintro q w7 ⟨rfl, hb7⟩
      have TT := hide ((unhide TT).next hb7)
      have q7 := below_step q6 q6.size hb7
      go_wp2_with fail
      refine (awake_ok _ (unhide TT)).mono ?_
      rintro q w8 ⟨rfl, hb8⟩
      go_wp2
      go_ret
      exact ⟨rfl, below_step q7 q7.size hb8⟩

set_option maxHeartbeats 8000000 in
theorem stores_4 (n : Nat) (hn : n ≤ 20) (hn0 : 0 < n) (x : Int) (f : Nat → Int) (bb off c : Nat) (w : World) (T : Tab w) (hb : bb < w.heap.size) (hc : ∀ j, j < n → w.cell? ⟨bb, off + j, none⟩ = some (.int .i64 (f j))) (hf : fitB f n = true) (r : Nat) (hr : (x.tmod n + n) % n = (r : Int)) (hrn : r < n) (hv : f r = 4) :
    Calls Tryd.prog 8 #[.slice (some ⟨bb, off, none⟩) n c, .int .i64 x] w fun r w' => r = .returned (.bool true) ∧ Below w.heap.size w w' := by
  have hS := hide (show Sl w (.slice (some ⟨bb, off, none⟩) n c) n f from .inr ⟨bb, off, c, rfl, hb, hc⟩)
  replace hc := hide hc
  replace hf := hide hf
  have TT := hide T
  have T0 := hide T
  clear T
  have e0 : ((n : Int) == 0) = false := by simp; omega
  have e20 : ¬ 20 < (n : Int) := by omega
  have ht1 : -(n : Int) < x.tmod n := by have := Int.lt_tmod_of_pos x (show (0 : Int) < n by omega); omega
  have ht2 : x.tmod n < n := Int.tmod_lt_of_pos x (by omega)
  have hx : w.cell? ⟨bb, off + r, none⟩ = some (.int .i64 4) := by rw [hc.out r hrn, hv]
  have hst := hide (show stB (f r) = true by rw [hv]; decide)
  have hr2 : x.tmod n % n = (r : Int) := by simpa using hr
  replace hr := hide hr
  replace hv := hide hv
  have hri : (r : Int) < n := by omega
  obtain ⟨i0, hi, hz0, hz1, hz2⟩ := info_parts info3
  go_enter Tryd.func8, Tryd.ntmps8
  go_wp2_with fail
  refine (fit_v n (by omega) f _ hf.out _ _ (unhide TT) (unhide hS)).mono ?_
  rintro q w1 ⟨rfl, hb1⟩
  have TT := hide ((unhide TT).next hb1)
  have hx1 := cell_next hb1 hb hx
  have hb' := Nat.lt_of_lt_of_le hb hb1.size
  go_wp2_with fail
  refine (wrote_4 _ (unhide TT)).mono ?_
  rintro q w2 ⟨rfl, hb2⟩
  have TT := hide ((unhide TT).next hb2)
  have q2 := below_step hb1 hb1.size hb2
  have hcw := hide (fun j (hj : j < n) => cell_next q2 hb (hc.out j hj))
  replace hr2 := hide hr2
  clear hx hx1 hb1 hb2
  rw [show (x.tmod (n : Int) + (n : Int)) % (n : Int) = (r : Int) from hr.out]
  go_wp2
  go_loop [8] (fun v8 => ∃ k : Nat, k ≤ n ∧ v8 = .int .i64 k) (fun v8 => n - (intOf v8).toNat)
  case atStart => exact ⟨0, Nat.zero_le _, rfl⟩
  case round =>
    obtain ⟨k, hk, rfl⟩ := hrel
    by_cases hlt : k < n
    · by_cases hkr : k = r
      · have hne : ((k : Int) != (r : Int)) = false := by simp; omega
        have hne2 : (k != r) = false := by simp; omega
        have hne3 : (k == r) = true := by simp; omega
        have hne4 : ((k : Int) == (r : Int)) = true := by simp; omega
        replace hkr := hide hkr
        go_wp2
        go_round
        case rel => exact ⟨k + 1, by omega, int_eq (by omega)⟩
        case measure => simp [intOf]; omega
      · have hne : ((k : Int) != (r : Int)) = true := by simp; omega
        have hne2 : (k != r) = true := by simp; omega
        have hne3 : (k == r) = false := by simp; omega
        have hne4 : ((k : Int) == (r : Int)) = false := by simp; omega
        have hy := hcw.out k hlt
        go_wp2_with fail
        refine (valid_v (f k) false (alone_of hf.out hrn hst.out hlt hkr) _).mono ?_
        rintro q w4 ⟨rfl, rfl⟩
        go_wp2
        go_round
        case rel => exact ⟨k + 1, by omega, int_eq (by omega)⟩
        case measure => simp [intOf]; omega
    · obtain rfl : k = n := by omega
      have hw0 := q2.size
      go_wp2_with (at_builtin; refine wpList_append_own _ rfl _ _ 32 rfl w.heap.size 3 i0 (.int .i64 0) 1 8 Tryd.underlying32 hi hz0 hz1 hz2 rfl (by decide) _ _ _ rfl (World.ownsRow_nil _ _ _ _) ⟨bb, off, none⟩ k c (cellsOf f k) rfl (by simp [cellsOf]) (news_of hcw.out) (cellsOf_one f k) (by unfold maxLen; omega) (by omega) hw0 ?_; intro v' w3 hown' hgrow _; obtain ⟨g, cap, rfl⟩ := owns_form hown' (by omega); simp only [Nat.zero_add, List.nil_append] at hown'; have hcell : w3.cell? ⟨g, r, none⟩ = some (.int .i64 (f r)) := (hown'.cellAt r (by omega)).trans (cellsOf_at f hrn); have hfz := hown'.frozenAt r)
      have hgrow' : w2.grownBy w3 (Value.slice none 0 0).ownBlock := hgrow
      have q3 : Below w.heap.size w w3 := q2.grown hgrow' hw0 (fun j hj => by cases hj)
      have hgl := (hown'.lt g rfl)
      have own2 := (hown'.stored r (.int .i64 4)).1
      rw [cellsOf_set] at own2
      have q4 : Below w.heap.size w (w3.setCell ⟨g, r, none⟩ (.int .i64 4)) := q3.setCell (p := ⟨g, r, none⟩) hgl.1 _
      have hs4 := hide (sl_of_owns own2)
      have hT4 := hide (Tab.next (w := w) (show Tab w from unhide T0) q4)
      have hft := hide (fit_set hf.out hrn hst.out 4 (by decide))
      clear hown' own2 hcell hfz hgrow hgrow'
      go_wp2_with fail
      refine (fit_v k (by omega) _ _ hft.out _ _ (unhide hT4) (unhide hs4)).mono ?_
      rintro q w5 ⟨rfl, hb5⟩
      have TT := hide ((unhide hT4).next hb5)
      have q5 := below_step q4 q4.size hb5
      go_wp2_with fail
      refine (dirty_v 4 true (by decide) _ (unhide TT)).mono ?_
      rintro q w6 ⟨rfl, hb6⟩
      have TT := hide ((unhide TT).next hb6)
      have q6 := below_step q5 q5.size hb6
      go_wp2_with fail
      refine (store_v 4 true (by decide) _ (unhide TT)).mono ?_
      rintro q w7 ⟨rfl, hb7⟩
      have TT := hide ((unhide TT).next hb7)
      have q7 := below_step q6 q6.size hb7
      go_wp2_with fail
      refine (awake_ok _ (unhide TT)).mono ?_
      rintro q w8 ⟨rfl, hb8⟩
      go_wp2
      go_ret
      exact ⟨rfl, below_step q7 q7.size hb8⟩

theorem stores_none (a : Option Addr) (n c : Nat) (hm : n ≤ 9223372036854775807) (hn : n = 0 ∨ 20 < n) (x : Int) (w : World) (T : Tab w) : Calls Tryd.prog 8 #[.slice a n c, .int .i64 x] w fun r w' => r = .returned (.bool true) ∧ Below w.heap.size w w' := by
  have TT := hide T
  clear T
  rcases hn with rfl | hn
  · go_enter Tryd.func8, Tryd.ntmps8
    go_wp2_with fail
    refine (awake_ok _ (unhide TT)).mono ?_
    rintro r w4 ⟨rfl, hb4⟩
    go_wp2
    go_ret
    exact ⟨rfl, hb4⟩
  · go_enter Tryd.func8, Tryd.ntmps8
    go_wp2_with fail
    refine (awake_ok _ (unhide TT)).mono ?_
    rintro r w4 ⟨rfl, hb4⟩
    go_wp2
    go_ret
    exact ⟨rfl, hb4⟩
theorem rot_of (x : Int) {n : Nat} (hn0 : 0 < n) : ∃ r : Nat, (x.tmod n + n) % n = (r : Int) ∧ r < n := by
  have a := Int.emod_nonneg (x.tmod n + n) (show (n : Int) ≠ 0 by omega)
  have c := Int.emod_lt_of_pos (x.tmod n + n) (show (0 : Int) < n by omega)
  exact ⟨((x.tmod n + n) % n).toNat, by omega, by omega⟩
theorem stores_law (sv : Value) (x : Int) (w : World) (T : Tab w) (h : In w sv) : Calls Tryd.prog 8 #[sv, .int .i64 x] w fun r w' => r = .returned (.bool true) ∧ Below w.heap.size w w' := by
  obtain ⟨a, n, c, rfl, hm, f, hs⟩ := h
  unfold maxLen at hm
  by_cases hn : n = 0 ∨ 20 < n
  · exact stores_none a n c (by omega) hn x w T
  · rcases hs with ⟨rfl, a', c', e⟩ | ⟨b, off, c', e, hb, hc⟩
    · exact absurd (.inl rfl) hn
    · cases e
      cases hf : fitB f n
      · exact stores_unfit n (by omega) (by omega) x f b off c w T hb hc hf
      · obtain ⟨r, hr, hrn⟩ := rot_of x (show 0 < n by omega)
        rcases val_of (all_at ((fit_iff f n).1 hf).1 hrn) with hv | hv | hv | hv | hv
        · exact stores_0 n (by omega) (by omega) x f b off c w T hb hc hf r hr hrn hv
        · exact stores_1 n (by omega) (by omega) x f b off c w T hb hc hf r hr hrn hv
        · exact stores_2 n (by omega) (by omega) x f b off c w T hb hc hf r hr hrn hv
        · exact stores_3 n (by omega) (by omega) x f b off c w T hb hc hf r hr hrn hv
        · exact stores_4 n (by omega) (by omega) x f b off c w T hb hc hf r hr hrn hv
end Go.Proofs.YtijhndmmljicmaaDoor
