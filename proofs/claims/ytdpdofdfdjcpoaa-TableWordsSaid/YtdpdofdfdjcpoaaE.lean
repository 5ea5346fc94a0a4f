/- Next, walked; the chapter's example; TableMay and TableNil. -/
import Derived.Test.YtdpdofdfdjcpoaaD
import Derived.WalkKit
import Derived.WalkSpells
import Derived.ProofKit
import Derived.Outline
import Derived.Handy
import Derived.RowKit3
import Derived.BigQuiet
import Derived.Deep.QuietTactic
import Derived.Deep.RegionHeld3
import Derived.Deep.Draws
import Derived.RegionTactic
import Derived.BigRegion
import Derived.IntWalk
import Derived.LoopTactic
import Derived.OwnWalk
import Derived.Laws.AppendOwn
import Derived.Laws.OwnMore
import Derived.Laws.MakeOwn
import Derived.Laws.Pointers
import Derived.Maps.AppendAt
import Derived.Below
namespace Go.Proofs.Ytdpdofdfdjcpoaa
open Go.RowKit
set_option linter.unusedVariables false
set_option maxRecDepth 100000

theorem may_n (n : Nat) (h1 : 1 ≤ n) (h2 : n ≤ 16) (w : World) : Calls Try.prog 23 #[.int .i64 n] w fun r w' => r = .returned (.bool true) ∧ w = w' := may_v n true (by simp; omega) w

set_option maxHeartbeats 2000000 in
theorem next_plain (n g q mn : Nat) (x : Int) (hx0 : 0 ≤ x) (hx : x ≤ 4) (h1 : 1 ≤ n) (hn : n ≤ 16) (hg : g < n) (hq : g / 4 = q) (hm : (n + 3) / 4 = mn) (w : World) :
    Calls Try.prog 18 #[.int .i64 n, .int .i64 g, .int .i64 q, .int .i64 (4 * x)] w fun r w' => r = .returned (.tuple #[.int .i64 0, .agg #[.int .i64 x, .bool false], .bool true, .int .i64 0]) ∧ Below w.heap.size w w' := by
  have f0 : (4 * x == 4 * ((mn : Int) + 4 * q) + 1) = false := by simp; omega
  have HX := hide (show decide (0 ≤ x ∧ x ≤ 4) = true by simp; omega)
  have f3 : 4 * x / 4 = x := by omega
  have f4 : (4 * x) % 4 = 0 := by omega
  have f1 : (g : Int) / 4 = q := by omega
  have f2 : ¬ (n : Int) ≤ g := by omega
  have HM := hide hm
  have hq4 : q ≤ 4 := by omega
  have hm4 : mn ≤ 4 := by omega
  clear hm hq
  go_enter Try.func18, Try.ntmps18
  go_wp2_with fail
  refine (may_n n h1 hn _).mono ?_
  rintro r w1 ⟨rfl, rfl⟩
  go_wp2_with fail
  refine (groups_v n mn h1 hn HM.out _).mono ?_
  rintro r w1 ⟨rfl, rfl⟩
  go_wp2_with fail
  refine (owns_v x true HX.out _).mono ?_
  rintro r w1 ⟨rfl, rfl⟩
  go_wp2
  go_region
  go_wp2
  exact bodyPost_ret (v := .tuple #[.int .i64 0, .agg #[.int .i64 x, .bool false], .bool true, .int .i64 0]) (by simp [results, Try.results18, go_sem] <;> omega) rfl ⟨rfl, by repeat (first | exact Below.refl _ _ | refine below_drew0 ?_ | refine Below.setCell ?_ (by simp) _ | refine Below.alloc ?_ (by simp) _)⟩

set_option maxHeartbeats 2000000 in
theorem next_part (n g q mn : Nat)  (h1 : 1 ≤ n) (hn : n ≤ 16) (hg : g < n) (hq : g / 4 = q) (hm : (n + 3) / 4 = mn) (w : World) :
    Calls Try.prog 18 #[.int .i64 n, .int .i64 g, .int .i64 q, .int .i64 (4 * ((mn : Int) + 4 * q) + 1)] w fun r w' => r = .returned (.tuple #[.int .i64 ((mn : Int) + g), .agg #[.int .i64 0, .bool false], .bool false, .int .i64 0]) ∧ Below w.heap.size w w' := by

  have f1 : (g : Int) / 4 = q := by omega
  have f2 : ¬ (n : Int) ≤ g := by omega
  have HM := hide hm
  have hq4 : q ≤ 4 := by omega
  have hm4 : mn ≤ 4 := by omega
  clear hm hq
  go_enter Try.func18, Try.ntmps18
  go_wp2_with fail
  refine (may_n n h1 hn _).mono ?_
  rintro r w1 ⟨rfl, rfl⟩
  go_wp2_with fail
  refine (groups_v n mn h1 hn HM.out _).mono ?_
  rintro r w1 ⟨rfl, rfl⟩
  go_wp2
  exact bodyPost_ret (v := .tuple #[.int .i64 ((mn : Int) + g), .agg #[.int .i64 0, .bool false], .bool false, .int .i64 0]) (by simp [results, Try.results18, go_sem] <;> omega) rfl ⟨rfl, by repeat (first | exact Below.refl _ _ | refine below_drew0 ?_ | refine Below.setCell ?_ (by simp) _ | refine Below.alloc ?_ (by simp) _)⟩

set_option maxHeartbeats 2000000 in
theorem next_own (n g q mn : Nat) (x : Int) (hx0 : 0 ≤ x) (hx : x ≤ 4) (h1 : 1 ≤ n) (hn : n ≤ 16) (hg : g < n) (hq : g / 4 = q) (hm : (n + 3) / 4 = mn) (w : World) :
    Calls Try.prog 18 #[.int .i64 n, .int .i64 g, .int .i64 ((mn : Int) + g), .int .i64 x] w fun r w' => r = .returned (.tuple #[.int .i64 0, .agg #[.int .i64 x, .bool false], .bool true, .int .i64 0]) ∧ Below w.heap.size w w' := by
  have f0 : ((mn : Int) + g == q) = false := by simp; omega
  have f5 : (mn + g == q) = false := by simp; omega
  have HX := hide (show decide (0 ≤ x ∧ x ≤ 4) = true by simp; omega)
  have f1 : (g : Int) / 4 = q := by omega
  have f2 : ¬ (n : Int) ≤ g := by omega
  have HM := hide hm
  have hq4 : q ≤ 4 := by omega
  have hm4 : mn ≤ 4 := by omega
  clear hm hq
  go_enter Try.func18, Try.ntmps18
  go_wp2_with fail
  refine (may_n n h1 hn _).mono ?_
  rintro r w1 ⟨rfl, rfl⟩
  go_wp2_with fail
  refine (groups_v n mn h1 hn HM.out _).mono ?_
  rintro r w1 ⟨rfl, rfl⟩
  go_wp2_with fail
  refine (owns_v x true HX.out _).mono ?_
  rintro r w1 ⟨rfl, rfl⟩
  go_wp2
  go_region
  go_wp2
  exact bodyPost_ret (v := .tuple #[.int .i64 0, .agg #[.int .i64 x, .bool false], .bool true, .int .i64 0]) (by simp [results, Try.results18, go_sem] <;> omega) rfl ⟨rfl, by repeat (first | exact Below.refl _ _ | refine below_drew0 ?_ | refine Below.setCell ?_ (by simp) _ | refine Below.alloc ?_ (by simp) _)⟩

set_option maxHeartbeats 2000000 in
theorem next_lock (n g q mn : Nat) (x : Int) (hx0 : 0 ≤ x) (hx : x ≤ 4) (h1 : 1 ≤ n) (hn : n ≤ 16) (hg : g < n) (hq : g / 4 = q) (hm : (n + 3) / 4 = mn) (w : World) :
    Calls Try.prog 18 #[.int .i64 n, .int .i64 g, .int .i64 ((mn : Int) + g), .int .i64 (x + 8)] w fun r w' => r = .returned (.tuple #[.int .i64 0, .agg #[.int .i64 x, .bool true], .bool true, .int .i64 0]) ∧ Below w.heap.size w w' := by
  have f0 : ((mn : Int) + g == q) = false := by simp; omega
  have f5 : (mn + g == q) = false := by simp; omega
  have HX := hide (show decide (0 ≤ x ∧ x ≤ 4) = true by simp; omega)
  have f1 : (g : Int) / 4 = q := by omega
  have f2 : ¬ (n : Int) ≤ g := by omega
  have HM := hide hm
  have hq4 : q ≤ 4 := by omega
  have hm4 : mn ≤ 4 := by omega
  clear hm hq
  go_enter Try.func18, Try.ntmps18
  go_wp2_with fail
  refine (may_n n h1 hn _).mono ?_
  rintro r w1 ⟨rfl, rfl⟩
  go_wp2_with fail
  refine (groups_v n mn h1 hn HM.out _).mono ?_
  rintro r w1 ⟨rfl, rfl⟩
  go_wp2_with fail
  refine (owns_v x true HX.out _).mono ?_
  rintro r w1 ⟨rfl, rfl⟩
  go_wp2
  go_region
  go_wp2
  exact bodyPost_ret (v := .tuple #[.int .i64 0, .agg #[.int .i64 x, .bool true], .bool true, .int .i64 0]) (by simp [results, Try.results18, go_sem] <;> omega) rfl ⟨rfl, by repeat (first | exact Below.refl _ _ | refine below_drew0 ?_ | refine Below.setCell ?_ (by simp) _ | refine Below.alloc ?_ (by simp) _)⟩

def litA : Nat → Int := fun j => [(9 : Int), 0, 0, 2, 0, 0, 0].getD j 0
theorem litA_cells (w : World) : ∀ j, j < 7 → (w.alloc (.cells #[.int .i64 9, .int .i64 0, .int .i64 0, .int .i64 2, .int .i64 0, .int .i64 0, .int .i64 0] 3)).cell? ⟨w.heap.size, j, none⟩ = some (.int .i64 (litA j)) := by
  intro j hj
  have : j = 0 ∨ j = 1 ∨ j = 2 ∨ j = 3 ∨ j = 4 ∨ j = 5 ∨ j = 6 := by omega
  rcases this with rfl | rfl | rfl | rfl | rfl | rfl | rfl <;> simp [litA, go_sem]
theorem words_row {w : World} {base n mn : Nat} {v : Value} {f : Nat → Int} (h : w.ownsRow base 3 1 v n (cellsOf f n)) (hn : 0 < n) : ∃ g cap, v = .slice (some ⟨g, 0, none⟩) n cap ∧ base ≤ g ∧ g < w.heap.size ∧ ∀ j, j < n → w.cell? ⟨g, j, none⟩ = some (.int .i64 (f j)) := by
  obtain ⟨g, cap, rfl⟩ := owns_form h hn
  exact ⟨g, cap, rfl, (h.lt g rfl).1, (h.lt g rfl).2, fun j hj => (h.cellAt j (by omega)).trans (cellsOf_at f hj)⟩
theorem next_a (w : World) : Calls Try.prog 18 #[.int .i64 5, .int .i64 1, .int .i64 0, .int .i64 9] w fun r w' => r = .returned (.tuple #[.int .i64 3, .agg #[.int .i64 0, .bool false], .bool false, .int .i64 0]) ∧ Below w.heap.size w w' := next_part 5 1 0 2 (by omega) (by omega) (by omega) rfl rfl w
theorem next_b (w : World) : Calls Try.prog 18 #[.int .i64 5, .int .i64 1, .int .i64 3, .int .i64 2] w fun r w' => r = .returned (.tuple #[.int .i64 0, .agg #[.int .i64 2, .bool false], .bool true, .int .i64 0]) ∧ Below w.heap.size w w' := next_own 5 1 0 2 2 (by omega) (by omega) (by omega) (by omega) (by omega) rfl rfl w
set_option maxHeartbeats 8000000 in
theorem awake_ok (w : World) : Calls Try.prog 9 #[] w fun r w' => r = .returned (.bool true) ∧ Below w.heap.size w w' := by
  go_enter Try.func9, Try.ntmps9
  go_wp2_with fail
  refine (new_yes 5 (by omega) (by omega) _).mono ?_
  rintro r w1 ⟨P, E, rfl, hP, hE, hT, hb1⟩
  replace hT := hide hT
  go_wp2_with fail
  refine (set_yes P E 5 1 _ _ 2 false (by omega) (by decide) _ hT.out).mono ?_
  rintro r w2 ⟨rfl, hT2, hg⟩
  have hb2 := hide (hb1.grown hg hb1.size (fun k hk => by injection hk with hk; omega))
  replace hT2 := hide hT2
  clear hg
  go_wp2_with fail
  refine (next_a _).mono ?_
  rintro r w3 ⟨rfl, hb3⟩
  go_wp2_with fail
  refine (next_b _).mono ?_
  rintro r w4 ⟨rfl, hb4⟩
  have q3 := hide (below_step hb2.out hb2.out.size hb3)
  have q4 := hide (below_step q3.out q3.out.size (below_alloc hb4))
  have T4 := hide ((((hT2.out.next hb3).alloc _).next hb4))
  go_wp2_with fail
  refine (words_any 2 P E 5 _ _ (by omega) (by omega) rfl (by intro j hj; have : j = 0 ∨ j = 1 ∨ j = 2 ∨ j = 3 ∨ j = 4 := by omega
                                                              rcases this with rfl | rfl | rfl | rfl | rfl <;> simp [upd]) _ (T4.out.alloc _)).mono ?_
  rintro r w5 ⟨v, rfl, hown, hb5⟩
  obtain ⟨g, cap, rfl, hg1, hg2, hcells⟩ := words_row (mn := 2) hown (by omega)
  have q5 := hide (below_step q4.out q4.out.size (below_alloc hb5))
  have x8 := hide (show w5.cell? ⟨w4.heap.size, 0, none⟩ = some (.int .i64 2) from cell_next hb5 (p := w4.heap.size) (o := 0) (by simp) (World.cell?_alloc_new _ _ _ _))
  have x9 := hide (show w5.cell? ⟨w4.heap.size, 1, none⟩ = some (.bool false) from cell_next hb5 (p := w4.heap.size) (o := 1) (by simp) (World.cell?_alloc_new _ _ _ _))
  have x7 : w4.heap.size < w5.heap.size := Nat.lt_of_lt_of_le (by simp) hb5.size
  replace hcells := hide hcells
  clear hown
  go_wp2_with fail
  refine (ints_v 7 (by omega) (wdF 2 5 (upd (fun _ => 0) 1 2) (upd (fun _ => false) 1 false)) litA true (by decide) g cap w5.heap.size 7 _ (by simp; omega) (by simp) (fun j hj => cell_next ((Below.refl _ _).alloc (Nat.le_refl _) _) hg2 (hcells.out j hj)) (litA_cells _)).mono ?_
  rintro r w6 ⟨rfl, hb6⟩
  have z8 := cell_next (below_alloc hb6) x7 x8.out
  have z9 := cell_next (below_alloc hb6) x7 x9.out
  have fin := hide (below_step q5.out q5.out.size (below_alloc hb6))
  go_wp2
  go_ret
  exact ⟨rfl, fin.out⟩
end Go.Proofs.Ytdpdofdfdjcpoaa
