/- First, Next, plain, put, Ints, walked. -/
import Derived.Test.YtdpdofdfdjcpoaaB
import Derived.WalkKit
import Derived.WalkSpells
import Derived.ProofKit
import Derived.Outline
import Derived.Handy
import Derived.RowKit3
import Derived.BigQuiet
import Derived.Deep.QuietTactic
import Derived.Deep.RegionHeld3
import Derived.Deep.Draws
import Derived.RegionTactic
import Derived.BigRegion
import Derived.IntWalk
import Derived.LoopTactic
import Derived.OwnWalk
import Derived.Laws.AppendOwn
import Derived.Laws.OwnMore
import Derived.Laws.MakeOwn
import Derived.Laws.Pointers
import Derived.Maps.AppendAt
import Derived.Below
namespace Go.Proofs.Ytdpdofdfdjcpoaa
open Go.RowKit
set_option linter.unusedVariables false
set_option maxRecDepth 100000

theorem first_in (g : Nat) (h : g < 16) (w : World) : Calls Try.prog 16 #[.int .i64 g] w fun r w' => r = .returned (.tuple #[.int .i64 (g / 4 : Nat), .int .i64 0]) ∧ w = w' := by
  go_enter Try.func16, Try.ntmps16
  go_wp2
  go_ret2
  refine ⟨?_, rfl⟩
  simp [go_sem]
theorem below_drew0 {B : Nat} {a w : World} (h : Below B a w) : Below B a w.drew := ⟨h.os, h.tape, h.output, h.size, h.block⟩
def plB (n : Nat) (o : Nat → Int) (l : Nat → Bool) (a : Nat) : Bool := (List.range 4).all fun i => decide (4 * a + i < n → o (4 * a + i) = o (4 * a) ∧ l (4 * a + i) = false)
theorem plB_iff (n : Nat) (o : Nat → Int) (l : Nat → Bool) (a : Nat) : plB n o l a = true ↔ ∀ i, i < 4 → 4 * a + i < n → o (4 * a + i) = o (4 * a) ∧ l (4 * a + i) = false := by
  simp only [plB, List.all_eq_true, List.mem_range, decide_eq_true_eq]
theorem plB_no {n : Nat} {o : Nat → Int} {l : Nat → Bool} {a i : Nat} (hi : i < 4) (hn : 4 * a + i < n) (h : ¬ (o (4 * a + i) = o (4 * a) ∧ l (4 * a + i) = false)) : plB n o l a = false := by
  cases hh : plB n o l a
  · rfl
  · exact absurd ((plB_iff n o l a).1 hh i hi hn) h
def PlRel (P E n a : Nat) (o : Nat → Int) (l : Nat → Bool) (w : World) (m : Nat) (v5 v : Value) (wr : World) : Prop :=
  ∃ k : Nat, k ≤ m ∧ v5 = .bool true ∧ v = .int .i64 k ∧ (∀ j, j < k → o (4 * a + j) = o (4 * a) ∧ l (4 * a + j) = false) ∧ Tb wr P E n o l ∧ Below w.heap.size w wr ∧ w.heap.size < wr.heap.size ∧ wr.cell? ⟨w.heap.size, 0, none⟩ = some (.int .i64 (o (4 * a))) ∧ wr.cell? ⟨w.heap.size, 1, none⟩ = some (.bool false)
set_option maxHeartbeats 2000000 in
theorem plain_any (P E n at_ : Nat) (o : Nat → Int) (l : Nat → Bool) (h : 4 * at_ < n) (hn : n ≤ 16) (w : World) (hT : Tb w P E n o l) : Calls Try.prog 31 #[.pointer (some ⟨P, 0, none⟩), .int .i64 at_] w fun r w' => r = .returned (.tuple #[.int .i64 (o (4 * at_)), .bool (plB n o l at_)]) ∧ Below w.heap.size w w' := by
  have HT := hide hT
  obtain ⟨cp, hcp, c⟩ := hT.2.2.2.1
  have d := hT.2.2.2.2 (4 * at_) h
  obtain ⟨d0, d1, -, -⟩ := d
  clear hT
  have hEb := HT.out.2.1
  have hPb := HT.out.1
  have z1 : (4 * (at_ : Int)).toNat = 4 * at_ := by omega
  have z2 : 4 * (at_ : Int) < n := by omega
  obtain ⟨M, m, hM, hm, hm1, hm2, hm3⟩ : ∃ M m : Nat, (if (n : Int) < 4 * at_ + 4 then (n : Int) else 4 * at_ + 4) = (M : Int) ∧ M - 4 * at_ = m ∧ m ≤ 4 ∧ 4 * at_ + m ≤ n ∧ (m < 4 → 4 * at_ + m = n) := ⟨if n < 4 * at_ + 4 then n else 4 * at_ + 4, _, by split <;> split <;> omega, rfl, by split <;> omega, by split <;> omega, by split <;> omega⟩
  have hMn : (M : Int) ≤ n := by rw [← hM]; split <;> omega
  have hMn2 : M ≤ cp := by omega
  have hMc : (M : Int) ≤ cp := by omega
  have hMa : 4 * (at_ : Int) ≤ M := by rw [← hM]; split <;> omega
  go_enter Try.func31, Try.ntmps31
  go_wp2
  go_step3
  go_wp2
  go_step3
  go_wp2
  go_region
  replace hm := hide hm
  replace hM := hide hM
  go_wp2
  go_loopw [5, 36] (fun v5 v36 wr => PlRel P E n at_ o l w m v5 v36 wr) (fun _ v36 _ => m - (intOf v36).toNat)
  case atStart => exact ⟨0, Nat.zero_le _, rfl, rfl, fun j hj => by omega, tb_drew (HT.out.alloc _), below_drew0 ((Below.refl _ _).alloc (Nat.le_refl _) _), by simp, by simp [go_sem], by simp [go_sem]⟩
  case round =>
    obtain ⟨k, hk, rfl, rfl, hall, hTr, hB, hsz, e0, e1⟩ := hrel
    have hTr' := hide hTr
    by_cases hlt : k < m
    · obtain ⟨a1, a2, a3, a4, a5⟩ := hTr
      obtain ⟨b0, b1, -, -⟩ := a5 (4 * at_ + k) (by omega)
      clear a5
      have b0' : wr.cell? ⟨E, 4 * at_ * 2 + k * 2, none⟩ = some (.int .i64 (o (4 * at_ + k))) := by rw [← Nat.add_mul]; exact b0
      have b1' : wr.cell? ⟨E, 4 * at_ * 2 + k * 2 + 1, none⟩ = some (.bool (l (4 * at_ + k))) := by rw [← Nat.add_mul]; exact b1
      replace hall := hide hall
      by_cases hs : o (4 * at_ + k) = o (4 * at_) ∧ l (4 * at_ + k) = false
      · obtain ⟨s1, s2⟩ := hs
        have S1 := hide s1
        have S2 := hide s2
        go_wp2
        refine ⟨⟨k + 1, by omega, rfl, int_eq (by omega), fun j hj => ?_, hTr'.out.alloc _, hB.alloc (Nat.le_of_lt hsz) _, by simp; omega, cell_next ((Below.refl _ _).alloc (Nat.le_refl _) _) hsz e0, cell_next ((Below.refl _ _).alloc (Nat.le_refl _) _) hsz e1⟩, by simp [intOf]; omega⟩
        by_cases hj2 : j = k
        · rw [hj2]; exact ⟨S1.out, S2.out⟩
        · exact hall.out j (by omega)
      · have hb := hide (hB.alloc (Nat.le_of_lt hsz) (.cells #[.int .i64 (o (4 * at_ + k)), .bool (l (4 * at_ + k))] 35))
        have hp := hide (plB_no (n := n) (o := o) (l := l) (a := at_) (i := k) (by omega) (by omega) hs)
        have E0 := hide (cell_next ((Below.refl wr.heap.size _).alloc (Nat.le_refl _) (.cells #[.int .i64 (o (4 * at_ + k)), .bool (l (4 * at_ + k))] 35)) hsz e0)
        by_cases s1 : o (4 * at_ + k) = o (4 * at_)
        · have s2 : l (4 * at_ + k) = true := by
            cases hq : l (4 * at_ + k)
            · exact absurd ⟨s1, hq⟩ hs
            · rfl
          replace hs := hide hs
          rw [s1, s2] at hb E0
          go_wp2
          try rw [Exit.noGoto_ret]
          go_ret2
          exact ⟨by rw [hp.out]; rfl, hb.out⟩
        · have f0 : (o (4 * at_ + k) == o (4 * at_)) = false := by simpa using s1
          replace s1 := hide s1
          replace hs := hide hs
          go_wp2
          try rw [Exit.noGoto_ret]
          go_ret2
          exact ⟨by rw [hp.out]; rfl, hb.out⟩
    · obtain rfl : k = m := by omega
      have hp := hide ((plB_iff n o l at_).2 (fun i hi hn' => hall i (by by_cases k < 4 <;> omega)))
      clear hall
      go_wp2
      try rw [Exit.noGoto_ret]
      go_ret2
      exact ⟨by rw [hp.out]; rfl, hB⟩

theorem plain_v (P E n at_ : Nat) (o : Nat → Int) (l : Nat → Bool) (h : 4 * at_ < n) (hn : n ≤ 16) (v : Bool) (hv : plB n o l at_ = v) (w : World) (hT : Tb w P E n o l) : Calls Try.prog 31 #[.pointer (some ⟨P, 0, none⟩), .int .i64 at_] w fun r w' => r = .returned (.tuple #[.int .i64 (o (4 * at_)), .bool v]) ∧ Below w.heap.size w w' := by
  subst hv; exact plain_any P E n at_ o l h hn w hT
theorem owns_form {w : World} {base size n : Nat} {e : TypeId} {v : Value} {xs : List Value} (h : w.ownsRow base e size v n xs) (hn : 0 < n) : ∃ g cap, v = .slice (some ⟨g, 0, none⟩) n cap := by
  rcases h.2 with ⟨_, h0⟩ | ⟨g, cap, _, hv, _⟩
  · omega
  · exact ⟨g, cap, hv⟩
theorem box_grown {w w1 : World} {Bx base k : Nat} {v : Value} {xs : List Value} {x : Obj} (hbox : w.heap[Bx]? = some (.cells #[v] 45 (0, 0))) (hown : w.ownsRow base 3 1 v k xs) (hg : (w.alloc x).grownBy w1 v.ownBlock) : w1.heap[Bx]? = some (.cells #[v] 45 (0, 0)) := by
  have lt := lt_of_block hbox
  have hne : some Bx ≠ v.ownBlock := by
    obtain ⟨h1, ⟨e, -⟩ | ⟨g, cap, cur, hv, hg, hh, r⟩⟩ := hown
    · subst e; simp [Value.ownBlock]
    · subst hv
      simp only [Value.ownBlock]
      intro e
      injection e with e
      subst e
      rw [hh] at hbox
      simp at hbox
  exact (hg.block Bx (by simp; omega) hne).trans ((Below.heap_alloc w x Bx lt).trans hbox)
theorem own_ne {w : World} {Bx base k : Nat} {u v : Value} {xs : List Value} (hbox : w.heap[Bx]? = some (.cells #[u] 45 (0, 0))) (hown : w.ownsRow base 3 1 v k xs) : v.ownBlock ≠ some Bx := by
  obtain ⟨h1, ⟨e, -⟩ | ⟨g, cap, cur, hv, hg, hh, r⟩⟩ := hown
  · subst e; simp [Value.ownBlock]
  · subst hv
    simp only [Value.ownBlock]
    intro e
    injection e with e
    subst e
    rw [hh] at hbox
    simp at hbox
set_option maxHeartbeats 2000000 in
theorem put_any (a f : Int) (b : Bool) (ha0 : 0 ≤ a) (ha : a ≤ 1000) (hf0 : 0 ≤ f) (hf : f ≤ 1000) (x : Int) (hx : (if b then a + f else a) = x) (Bx base k : Nat) (v : Value) (xs : List Value) (w : World) (hbox : w.heap[Bx]? = some (.cells #[v] 45 (0, 0))) (hown : w.ownsRow base 3 1 v k xs) (hk : k ≤ 100) (hbase : base ≤ Bx) :
    Calls Try.prog 30 #[.int .i64 a, .int .i64 f, .bool b, .pointer (some ⟨Bx, 0, none⟩)] w fun r w' => r = .returned (.tuple #[]) ∧ ∃ v', w'.heap[Bx]? = some (.cells #[v'] 45 (0, 0)) ∧ w'.ownsRow base 3 1 v' (k + 1) (xs ++ [.int .i64 x]) ∧ Below base w w' := by
  obtain ⟨i0, hi, hz0, hz1, hz2⟩ := info_parts info3
  have c := cell_of_one hbox
  have fz := free_of_one hbox
  have lt := lt_of_block hbox
  have HB := hide hbox
  clear hbox
  subst hx
  cases b
  · go_enter Try.func30, Try.ntmps30
    go_wp2_with (at_builtin; refine wpList_append_own _ rfl _ _ 45 rfl base 3 i0 (.int .i64 0) 1 8 Try.underlying45 hi hz0 hz1 hz2 rfl (by decide) _ _ _ rfl (hown.alloc _) ⟨w.heap.size, 0, none⟩ 1 1 [.int .i64 a] rfl rfl (cell_one_new _ _ _) (by simp [Value.oneCell']) (by unfold maxLen; omega) (by omega) (by simp; omega) ?_; intro v' w1 hown' hgrow _; obtain ⟨g, cap, rfl⟩ := owns_form hown' (by omega); have c1 := cell_of_one (box_grown HB.out hown hgrow); have f1 := free_of_one (box_grown HB.out hown hgrow))
    go_end0
    exact ⟨rfl, _, one_setCell (box_grown HB.out hown hgrow), ownsRow_setCell_other hown' (own_ne (box_grown HB.out hown hgrow) hown') _, (((Below.refl base w).alloc (by omega) _).grown hgrow (by simp; omega) (fun j hj => (hown.lt j hj).1)).setCell hbase _⟩
  · go_enter Try.func30, Try.ntmps30
    go_wp2_with (at_builtin; refine wpList_append_own _ rfl _ _ 45 rfl base 3 i0 (.int .i64 0) 1 8 Try.underlying45 hi hz0 hz1 hz2 rfl (by decide) _ _ _ rfl (hown.alloc _) ⟨w.heap.size, 0, none⟩ 1 1 [.int .i64 (a + f)] rfl rfl (cell_one_new _ _ _) (by simp [Value.oneCell']) (by unfold maxLen; omega) (by omega) (by simp; omega) ?_; intro v' w1 hown' hgrow _; obtain ⟨g, cap, rfl⟩ := owns_form hown' (by omega); have c1 := cell_of_one (box_grown HB.out hown hgrow); have f1 := free_of_one (box_grown HB.out hown hgrow))
    go_end0
    exact ⟨rfl, _, one_setCell (box_grown HB.out hown hgrow), ownsRow_setCell_other hown' (own_ne (box_grown HB.out hown hgrow) hown') _, (((Below.refl base w).alloc (by omega) _).grown hgrow (by simp; omega) (fun j hj => (hown.lt j hj).1)).setCell hbase _⟩
def eqB (f g : Nat → Int) (n : Nat) : Bool := (List.range n).all fun j => f j == g j
theorem eqB_iff (f g : Nat → Int) (n : Nat) : eqB f g n = true ↔ ∀ j, j < n → f j = g j := by simp [eqB]
theorem eqB_no {f g : Nat → Int} {n j : Nat} (hj : j < n) (h : f j ≠ g j) : eqB f g n = false := by
  cases hh : eqB f g n
  · rfl
  · exact absurd ((eqB_iff f g n).1 hh j hj) h
def IntsRel (n : Nat) (f g : Nat → Int) (w : World) (v5 : Value) (wr : World) : Prop := ∃ k : Nat, k ≤ n ∧ v5 = .int .i64 k ∧ (∀ j, j < k → f j = g j) ∧ Below w.heap.size w wr
set_option maxHeartbeats 2000000 in
theorem ints_v (n : Nat) (hn : n ≤ 1000) (f g : Nat → Int) (v : Bool) (hv : eqB f g n = v) (b1 c1 b2 c2 : Nat) (w : World) (hb1 : b1 < w.heap.size) (hb2 : b2 < w.heap.size) (h1 : ∀ j, j < n → w.cell? ⟨b1, j, none⟩ = some (.int .i64 (f j))) (h2 : ∀ j, j < n → w.cell? ⟨b2, j, none⟩ = some (.int .i64 (g j))) :
    Calls Try.prog 20 #[.slice (some ⟨b1, 0, none⟩) n c1, .slice (some ⟨b2, 0, none⟩) n c2] w fun r w' => r = .returned (.bool v) ∧ Below w.heap.size w w' := by
  replace h1 := hide h1
  replace h2 := hide h2
  replace hv := hide hv
  go_enter Try.func20, Try.ntmps20
  go_wp2
  go_loopw [5] (fun v5 wr => IntsRel n f g w v5 wr) (fun v5 _ => n - (intOf v5).toNat)
  case atStart => exact ⟨0, Nat.zero_le _, rfl, fun j hj => by omega, Below.refl _ _⟩
  case round =>
    obtain ⟨k, hk, rfl, hall, hB⟩ := hrel
    replace hall := hide hall
    by_cases hlt : k < n
    · have x1 := cell_next hB hb1 (h1.out k hlt)
      have x2 := cell_next hB hb2 (h2.out k hlt)
      by_cases he : f k = g k
      · have HE := hide he
        rw [← he] at x2
        clear he
        go_wp2_with (go_quiet (fail))
        go_roundw
        case rel =>
          refine ⟨k + 1, by omega, int_eq (by omega), fun j hj => ?_, below_drewN hB _⟩
          by_cases hj2 : j = k
          · rw [hj2]; exact HE.out
          · exact hall.out j (by omega)
        case measure => simp [intOf]; omega
      · have f0 : (f k == g k) = false := by simpa using he
        have HE := hide (eqB_no hlt he)
        clear he
        go_wp2_with (go_quiet (fail))
        go_ret
        exact ⟨ret_bool (by rw [← hv.out, HE.out]), below_drewN hB _⟩
    · obtain rfl : k = n := by omega
      go_wp2
      go_ret
      exact ⟨ret_bool (by rw [← hv.out, (eqB_iff f g k).2 hall.out]), hB⟩
end Go.Proofs.Ytdpdofdfdjcpoaa
