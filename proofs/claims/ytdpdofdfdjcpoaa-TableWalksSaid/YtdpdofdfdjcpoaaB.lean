/- Small functions of package table, walked. -/
import Derived.Test.YtdpdofdfdjcpoaaK
import Derived.WalkKit
import Derived.WalkSpells
import Derived.ProofKit
import Derived.Outline
import Derived.Handy
import Derived.RowKit3
import Derived.BigQuiet
import Derived.Deep.QuietTactic
import Derived.Deep.RegionHeld3
import Derived.Deep.Draws
import Derived.RegionTactic
import Derived.BigRegion
import Derived.IntWalk
import Derived.LoopTactic
import Derived.OwnWalk
import Derived.Laws.AppendOwn
import Derived.Laws.OwnMore
import Derived.Laws.MakeOwn
import Derived.Laws.Pointers
import Derived.Maps.AppendAt
import Derived.Below
namespace Go.Proofs.Ytdpdofdfdjcpoaa
open Go.RowKit
set_option linter.unusedVariables false
set_option maxRecDepth 100000

theorem may_any (n : Int) (w : World) : Calls Try.prog 23 #[.int .i64 n] w fun r w' => r = .returned (.bool (decide (1 ≤ n ∧ n ≤ 16))) ∧ w = w' := by
  by_cases h : 1 ≤ n
  · go_enter Try.func23, Try.ntmps23
    go_wp2
    go_ret
    exact ⟨ret_bool (by simp [h]), rfl⟩
  · go_enter Try.func23, Try.ntmps23
    go_wp2
    go_ret
    exact ⟨ret_bool (by simp; omega), rfl⟩
theorem may_v (n : Int) (v : Bool) (h : decide (1 ≤ n ∧ n ≤ 16) = v) (w : World) : Calls Try.prog 23 #[.int .i64 n] w fun r w' => r = .returned (.bool v) ∧ w = w' := by subst h; exact may_any n w
theorem owns_any (n : Int) (w : World) : Calls Try.prog 28 #[.int .i64 n] w fun r w' => r = .returned (.bool (decide (0 ≤ n ∧ n ≤ 4))) ∧ w = w' := by
  by_cases h : 0 ≤ n
  · go_enter Try.func28, Try.ntmps28
    go_wp2
    go_ret
    exact ⟨ret_bool (by simp [h]), rfl⟩
  · go_enter Try.func28, Try.ntmps28
    go_wp2
    go_ret
    exact ⟨ret_bool (by simp; omega), rfl⟩
theorem owns_v (n : Int) (v : Bool) (h : decide (0 ≤ n ∧ n ≤ 4) = v) (w : World) : Calls Try.prog 28 #[.int .i64 n] w fun r w' => r = .returned (.bool v) ∧ w = w' := by subst h; exact owns_any n w
theorem groups_any (n : Int) (h1 : 1 ≤ n) (h2 : n ≤ 16) (w : World) : Calls Try.prog 29 #[.int .i64 n] w fun r w' => r = .returned (.int .i64 ((n + 3) / 4)) ∧ w = w' := by
  go_enter Try.func29, Try.ntmps29
  go_wp2
  go_ret
  exact ⟨ret_int (by omega), rfl⟩
theorem has_yes (P E n j : Nat) (o : Nat → Int) (l : Nat → Bool) (hj : j < n) (w : World) (hT : Tb w P E n o l) : Calls Try.prog 27 #[.pointer (some ⟨P, 0, none⟩), .int .i64 j] w fun r w' => r = .returned (.bool true) ∧ w = w' := by
  obtain ⟨cp, hcp, c⟩ := hT.2.2.2.1
  clear hT
  have e : decide ((j : Int) < n) = true := by simp; omega
  have e2 : decide (j < n) = true := by simpa using hj
  go_enter Try.func27, Try.ntmps27
  go_wp2
  go_ret
  exact ⟨rfl, rfl⟩
theorem has_no (P E n : Nat) (j : Int) (o : Nat → Int) (l : Nat → Bool) (hj : ¬ (0 ≤ j ∧ j < n)) (w : World) (hT : Tb w P E n o l) : Calls Try.prog 27 #[.pointer (some ⟨P, 0, none⟩), .int .i64 j] w fun r w' => r = .returned (.bool false) ∧ w = w' := by
  obtain ⟨cp, hcp, c⟩ := hT.2.2.2.1
  clear hT
  by_cases h0 : 0 ≤ j
  · have e : decide (j < n) = false := by simp; omega
    replace hj := hide hj
    go_enter Try.func27, Try.ntmps27
    go_wp2
    go_ret
    exact ⟨rfl, rfl⟩
  · replace hj := hide hj
    go_enter Try.func27, Try.ntmps27
    go_wp2
    go_ret
    exact ⟨rfl, rfl⟩
theorem new_no (n : Int) (h : decide (1 ≤ n ∧ n ≤ 16) = false) (w : World) : Calls Try.prog 10 #[.int .i64 n] w fun r w' => r = .returned (.tuple #[.pointer none, .int .i64 10]) ∧ w = w' := by
  have H := hide h
  clear h
  go_enter Try.func10, Try.ntmps10
  go_wp2_with fail
  refine (may_v n false H.out _).mono ?_
  rintro r w1 ⟨rfl, rfl⟩
  go_wp2
  go_ret2
  exact ⟨rfl, rfl⟩
theorem new_yes (n : Nat) (h1 : 1 ≤ n) (h2 : n ≤ 16) (w : World) : Calls Try.prog 10 #[.int .i64 n] w fun r w' => ∃ P E, r = .returned (.tuple #[.pointer (some ⟨P, 0, none⟩), .int .i64 0]) ∧ w.heap.size ≤ P ∧ w.heap.size ≤ E ∧ Tb w' P E n (fun _ => 0) (fun _ => false) ∧ Below w.heap.size w w' := by
  obtain ⟨i0, hi, hz0, hz1, hz2⟩ := info_parts info35
  have hmk := fun W => run_make_rowN (P := Try.prog) 53 35 i0 (.agg #[.int .i64 0, .bool false]) Try.underlying53 hi hz0 .i64 .i64 n n (Nat.le_refl _) (by rw [hz2]; omega) (by omega) W
  have hm := hide (show decide (1 ≤ (n : Int) ∧ (n : Int) ≤ 16) = true by simp; omega)
  go_enter Try.func10, Try.ntmps10
  go_wp2_with fail
  refine (may_v n true hm.out _).mono ?_
  rintro r w1 ⟨rfl, rfl⟩
  go_wp2
  go_ret2
  exact ⟨w.heap.size + 1, w.heap.size, rfl, by omega, by omega, tb_new w n, ((Below.refl _ _).alloc (Nat.le_refl _) _).alloc (by simp) _⟩
set_option maxHeartbeats 2000000 in
theorem set_yes (P E n j : Nat) (o : Nat → Int) (l : Nat → Bool) (x : Int) (b : Bool) (hj : j < n) (hx : decide (0 ≤ x ∧ x ≤ 4) = true) (w : World) (hT : Tb w P E n o l) :
    Calls Try.prog 14 #[.pointer (some ⟨P, 0, none⟩), .int .i64 j, .agg #[.int .i64 x, .bool b]] w fun r w' => r = .returned (.int .i64 0) ∧ Tb w' P E n (upd o j x) (upd l j b) ∧ w.grownBy w' (some E) := by
  have HT := hide hT
  have HX := hide hx
  have hjn : (j : Int) < n := by omega
  clear hT hx
  go_enter Try.func14, Try.ntmps14
  go_wp2_with fail
  refine (has_yes P E n j o l hj _ ((show Tb w P E n o l from HT.out).alloc _)).mono ?_
  rintro r w1 ⟨rfl, rfl⟩
  go_wp2_with fail
  refine (owns_v x true HX.out _).mono ?_
  rintro r w1 ⟨rfl, rfl⟩
  obtain ⟨h1, h2, h3, ⟨cp, hcp, c⟩, h5⟩ := (show Tb w P E n o l from HT.out).alloc (.cells #[.int .i64 x, .bool b] 35)
  obtain ⟨d0, d1, d2, d3⟩ := h5 j hj
  clear h5
  have fin1 := hide (((show Tb w P E n o l from HT.out).alloc (.cells #[.int .i64 x, .bool b] 35)).set hj x b)
  have fin2 := hide (only_setCell (only_setCell (only_alloc (only_refl w (some E)) (.cells #[.int .i64 x, .bool b] 35)) (p := ⟨E, j * 2, none⟩) (.inl rfl) (.int .i64 x)) (p := ⟨E, j * 2 + 1, none⟩) (.inl rfl) (.bool b))
  go_wp2
  go_region
  go_wp2
  go_ret
  refine ⟨rfl, ?_, only_drew ?_⟩
  · exact tb_drew fin1.out
  · exact fin2.out
theorem set_out (P E n : Nat) (j : Int) (o : Nat → Int) (l : Nat → Bool) (x : Int) (b : Bool) (hj : ¬ (0 ≤ j ∧ j < n)) (w : World) (hT : Tb w P E n o l) :
    Calls Try.prog 14 #[.pointer (some ⟨P, 0, none⟩), .int .i64 j, .agg #[.int .i64 x, .bool b]] w fun r w' => r = .returned (.int .i64 10) ∧ Below w.heap.size w w' := by
  have HT := hide hT
  replace hj := hide hj
  clear hT
  go_enter Try.func14, Try.ntmps14
  go_wp2_with fail
  refine (has_no P E n j o l hj.out _ ((show Tb w P E n o l from HT.out).alloc _)).mono ?_
  rintro r w1 ⟨rfl, rfl⟩
  go_wp2
  go_ret
  exact ⟨rfl, (Below.refl _ _).alloc (Nat.le_refl _) _⟩
theorem set_bad (P E n j : Nat) (o : Nat → Int) (l : Nat → Bool) (x : Int) (b : Bool) (hj : j < n) (hx : decide (0 ≤ x ∧ x ≤ 4) = false) (w : World) (hT : Tb w P E n o l) :
    Calls Try.prog 14 #[.pointer (some ⟨P, 0, none⟩), .int .i64 j, .agg #[.int .i64 x, .bool b]] w fun r w' => r = .returned (.int .i64 10) ∧ Below w.heap.size w w' := by
  have HT := hide hT
  have HX := hide hx
  clear hT hx
  go_enter Try.func14, Try.ntmps14
  go_wp2_with fail
  refine (has_yes P E n j o l hj _ ((show Tb w P E n o l from HT.out).alloc _)).mono ?_
  rintro r w1 ⟨rfl, rfl⟩
  go_wp2_with fail
  refine (owns_v x false HX.out _).mono ?_
  rintro r w1 ⟨rfl, rfl⟩
  go_wp2
  go_ret
  exact ⟨rfl, (Below.refl _ _).alloc (Nat.le_refl _) _⟩
theorem set_nil (j x : Int) (b : Bool) (w : World) :
    Calls Try.prog 14 #[.pointer none, .int .i64 j, .agg #[.int .i64 x, .bool b]] w fun r w' => r = .returned (.int .i64 2) ∧ Below w.heap.size w w' := by
  go_enter Try.func14, Try.ntmps14
  go_wp2
  go_ret
  exact ⟨rfl, (Below.refl _ _).alloc (Nat.le_refl _) _⟩
theorem get_nil (j : Int) (w : World) : Calls Try.prog 15 #[.pointer none, .int .i64 j] w fun r w' => r = .returned (.tuple #[.agg #[.int .i64 0, .bool false], .int .i64 2]) ∧ Below w.heap.size w w' := by
  go_enter Try.func15, Try.ntmps15
  go_wp2
  exact bodyPost_ret (v := .tuple #[.agg #[.int .i64 0, .bool false], .int .i64 2]) (by simp [results, Try.results15, go_sem]) rfl ⟨rfl, by repeat (first | exact Below.refl _ _ | refine Below.setCell ?_ (by simp) _ | refine Below.alloc ?_ (by simp) _)⟩
theorem get_yes (P E n j : Nat) (o : Nat → Int) (l : Nat → Bool) (hj : j < n) (w : World) (hT : Tb w P E n o l) :
    Calls Try.prog 15 #[.pointer (some ⟨P, 0, none⟩), .int .i64 j] w fun r w' => r = .returned (.tuple #[.agg #[.int .i64 (o j), .bool (l j)], .int .i64 0]) ∧ Below w.heap.size w w' := by
  have HT := hide hT
  have hjn : (j : Int) < n := by omega
  clear hT
  go_enter Try.func15, Try.ntmps15
  go_wp2_with fail
  refine (has_yes P E n j o l hj _ ((show Tb w P E n o l from HT.out).alloc _)).mono ?_
  rintro r w1 ⟨rfl, rfl⟩
  obtain ⟨h1, h2, h3, ⟨cp, hcp, c⟩, h5⟩ := (show Tb w P E n o l from HT.out).alloc (.cells #[.int .i64 0, .bool false] 35)
  obtain ⟨d0, d1, d2, d3⟩ := h5 j hj
  clear h5
  go_wp2
  exact bodyPost_ret (v := .tuple #[.agg #[.int .i64 (o j), .bool (l j)], .int .i64 0]) (by simp [results, Try.results15, go_sem]) rfl ⟨rfl, by repeat (first | exact Below.refl _ _ | refine Below.setCell ?_ (by simp) _ | refine Below.alloc ?_ (by simp) _)⟩
theorem get_no (P E n : Nat) (j : Int) (o : Nat → Int) (l : Nat → Bool) (hj : ¬ (0 ≤ j ∧ j < n)) (w : World) (hT : Tb w P E n o l) :
    Calls Try.prog 15 #[.pointer (some ⟨P, 0, none⟩), .int .i64 j] w fun r w' => r = .returned (.tuple #[.agg #[.int .i64 0, .bool false], .int .i64 10]) ∧ Below w.heap.size w w' := by
  have HT := hide hT
  replace hj := hide hj
  clear hT
  go_enter Try.func15, Try.ntmps15
  go_wp2_with fail
  refine (has_no P E n j o l hj.out _ ((show Tb w P E n o l from HT.out).alloc _)).mono ?_
  rintro r w1 ⟨rfl, rfl⟩
  go_wp2
  exact bodyPost_ret (v := .tuple #[.agg #[.int .i64 0, .bool false], .int .i64 10]) (by simp [results, Try.results15, go_sem]) rfl ⟨rfl, by repeat (first | exact Below.refl _ _ | refine Below.setCell ?_ (by simp) _ | refine Below.alloc ?_ (by simp) _)⟩
theorem table_may (world owner : Int) (w : World) : Calls Try.prog 21 #[.int .i64 world, .int .i64 owner] w fun r w' => r = .returned (.bool (decide ((0 ≤ world ∧ world ≤ 3) ∧ (0 ≤ owner ∧ owner ≤ 4) ∧ (world = 0 ∨ owner = world ∨ owner = 4)))) ∧ w = w' := by
  by_cases h0 : 0 ≤ world ∧ world ≤ 3
  · obtain ⟨a, c⟩ := h0
    by_cases h1 : 0 ≤ owner ∧ owner ≤ 4
    · have H1 := hide (decide_eq_true h1)
      replace h1 := hide h1
      by_cases e0 : world = 0
      · subst e0
        go_enter Try.func21, Try.ntmps21
        go_wp2_with (go_at_call 28; refine (owns_v owner true H1.out _).mono ?_; rintro r w1 ⟨rfl, rfl⟩)
        go_ret
        exact ⟨ret_bool (by have := h1.out; simp [this.1, this.2]), rfl⟩
      · by_cases e1 : owner = world
        · subst e1
          have f0 : (owner == 0) = false := by simpa using e0
          replace e0 := hide e0
          go_enter Try.func21, Try.ntmps21
          go_wp2_with (go_at_call 28; refine (owns_v owner true H1.out _).mono ?_; rintro r w1 ⟨rfl, rfl⟩)
          go_ret
          exact ⟨ret_bool (by have := h1.out; simp [this.1, this.2, c]), rfl⟩
        · have f0 : (world == 0) = false := by simpa using e0
          have f1 : (owner == world) = false := by simpa using e1
          by_cases e2 : owner = 4
          · subst e2
            replace e0 := hide e0
            replace e1 := hide e1
            go_enter Try.func21, Try.ntmps21
            go_wp2_with (go_at_call 28; refine (owns_v 4 true H1.out _).mono ?_; rintro r w1 ⟨rfl, rfl⟩)
            go_ret
            exact ⟨ret_bool (by simp [a, c]), rfl⟩
          · have f2 : (owner == 4) = false := by simpa using e2
            replace e0 := hide e0
            replace e1 := hide e1
            replace e2 := hide e2
            go_enter Try.func21, Try.ntmps21
            go_wp2_with (go_at_call 28; refine (owns_v owner true H1.out _).mono ?_; rintro r w1 ⟨rfl, rfl⟩)
            go_ret
            exact ⟨ret_bool (by have := e0.out; have := e1.out; have := e2.out; symm; apply decide_eq_false; omega), rfl⟩
    · have H1 := hide (decide_eq_false h1)
      replace h1 := hide h1
      go_enter Try.func21, Try.ntmps21
      go_wp2_with (go_at_call 28; refine (owns_v owner false H1.out _).mono ?_; rintro r w1 ⟨rfl, rfl⟩)
      go_ret
      exact ⟨ret_bool (by have := h1.out; symm; apply decide_eq_false; omega), rfl⟩
  · have H0 := hide h0
    by_cases a : world < 0
    · clear h0
      go_enter Try.func21, Try.ntmps21
      go_wp2
      go_ret
      exact ⟨ret_bool (by symm; apply decide_eq_false; omega), rfl⟩
    · have c : 3 < world := by omega
      clear h0
      go_enter Try.func21, Try.ntmps21
      go_wp2
      go_ret
      exact ⟨ret_bool (by first | (symm; apply decide_eq_false; omega) | (simp; omega)), rfl⟩
end Go.Proofs.Ytdpdofdfdjcpoaa
