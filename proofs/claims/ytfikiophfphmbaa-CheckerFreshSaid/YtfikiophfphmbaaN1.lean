/- Any word for a walk. -/
import Derived.Test.YtfikiophfphmbaaT
import Derived.WalkKit
import Derived.WalkSpells
import Derived.ProofKit
import Derived.Outline
import Derived.Handy
import Derived.RowKit3
import Derived.BigQuiet
import Derived.Deep.QuietTactic
import Derived.Deep.RegionHeld3
import Derived.Deep.Draws
import Derived.Deep.RegionLaw
import Derived.RegionTactic
import Derived.BigRegion
import Derived.IntWalk
import Derived.LoopTactic
import Derived.OwnWalk
import Derived.Laws.AppendOwn
import Derived.Laws.OwnMore
import Derived.Laws.MakeOwn
import Derived.Laws.Pointers
import Derived.Maps.AppendAt
import Derived.Deep.AppendLies
import Derived.Below
namespace Go.Proofs.Ytfikiophfphmbaa
open Go.RowKit
set_option linter.unusedVariables false
set_option maxRecDepth 100000

set_option maxHeartbeats 2000000 in
theorem nf_form (n g q mn : Nat) (word : Int) (h1 : 1 ≤ n) (hn : n ≤ 16) (hg : g < n) (hq : g / 4 = q) (hm : (n + 3) / 4 = mn) (hne : word ≠ 4 * ((mn : Int) + 4 * q) + 1) (hr : ¬ word.tmod 4 = 0) (w : World) :
    Calls Try.prog 35 #[.int .i64 n, .int .i64 g, .int .i64 q, .int .i64 word] w fun r w' => r = .returned (.tuple #[.int .i64 0, .agg #[.int .i64 0, .bool false], .bool false, .int .i64 14]) ∧ Below w.heap.size w w' := by
  have f1 : (g : Int) / 4 = q := by omega
  have f2 : ¬ (n : Int) ≤ g := by omega
  have f3 : (word == 4 * ((mn : Int) + 4 * q) + 1) = false := beq_eq_false_iff_ne.2 hne
  have r1 : (word.tmod 4 == 0) = false := beq_eq_false_iff_ne.2 hr
  have r2 : (word.tmod 4 != 0) = true := bne_iff_ne.2 hr
  have HM := hide hm
  have hq4 : q ≤ 4 := by omega
  have hm4 : mn ≤ 4 := by omega
  clear hm hq
  go_enter Try.func35, Try.ntmps35
  go_wp2_with fail
  refine (may_n n h1 hn _).mono ?_
  rintro r w1 ⟨rfl, rfl⟩
  go_wp2_with fail
  refine (groups_v n mn h1 hn HM.out _).mono ?_
  rintro r w1 ⟨rfl, rfl⟩
  go_wp2
  exact bodyPost_ret (v := .tuple #[.int .i64 0, .agg #[.int .i64 0, .bool false], .bool false, .int .i64 14]) (by simp [results, Try.results35, go_sem] <;> omega) rfl ⟨rfl, by repeat (first | exact Below.refl _ _ | refine below_drew0 ?_ | refine Below.setCell ?_ (by simp) _ | refine Below.alloc ?_ (by simp) _)⟩
set_option maxHeartbeats 2000000 in
theorem nf_bad (n g q mn : Nat) (word : Int) (h1 : 1 ≤ n) (hn : n ≤ 16) (hg : g < n) (hq : g / 4 = q) (hm : (n + 3) / 4 = mn) (hne : word ≠ 4 * ((mn : Int) + 4 * q) + 1) (hr : word.tmod 4 = 0) (ho : ¬ (0 ≤ (wrap64 (word.tdiv 4)) ∧ (wrap64 (word.tdiv 4)) ≤ 4)) (w : World) :
    Calls Try.prog 35 #[.int .i64 n, .int .i64 g, .int .i64 q, .int .i64 word] w fun r w' => r = .returned (.tuple #[.int .i64 0, .agg #[.int .i64 0, .bool false], .bool false, .int .i64 14]) ∧ Below w.heap.size w w' := by
  have f1 : (g : Int) / 4 = q := by omega
  have f2 : ¬ (n : Int) ≤ g := by omega
  have f3 : (word == 4 * ((mn : Int) + 4 * q) + 1) = false := beq_eq_false_iff_ne.2 hne
  have r2 : (word.tmod 4 != 0) = false := by simpa using hr
  have HO := hide ho
  clear ho
  have HM := hide hm
  have hq4 : q ≤ 4 := by omega
  have hm4 : mn ≤ 4 := by omega
  clear hm hq
  go_enter Try.func35, Try.ntmps35
  go_wp2_with fail
  refine (may_n n h1 hn _).mono ?_
  rintro r w1 ⟨rfl, rfl⟩
  go_wp2_with fail
  refine (groups_v n mn h1 hn HM.out _).mono ?_
  rintro r w1 ⟨rfl, rfl⟩
  go_wp2_with fail
  refine (owns_v _ false (by simpa using HO.out) _).mono ?_
  rintro r w1 ⟨rfl, rfl⟩
  go_wp2
  exact bodyPost_ret (v := .tuple #[.int .i64 0, .agg #[.int .i64 0, .bool false], .bool false, .int .i64 14]) (by simp [results, Try.results35, go_sem] <;> omega) rfl ⟨rfl, by repeat (first | exact Below.refl _ _ | refine below_drew0 ?_ | refine Below.setCell ?_ (by simp) _ | refine Below.alloc ?_ (by simp) _)⟩
set_option maxHeartbeats 2000000 in
theorem nf_ok (n g q mn : Nat) (word : Int) (h1 : 1 ≤ n) (hn : n ≤ 16) (hg : g < n) (hq : g / 4 = q) (hm : (n + 3) / 4 = mn) (hne : word ≠ 4 * ((mn : Int) + 4 * q) + 1) (hr : word.tmod 4 = 0) (ho : 0 ≤ (wrap64 (word.tdiv 4)) ∧ (wrap64 (word.tdiv 4)) ≤ 4) (w : World) :
    Calls Try.prog 35 #[.int .i64 n, .int .i64 g, .int .i64 q, .int .i64 word] w fun r w' => r = .returned (.tuple #[.int .i64 0, .agg #[.int .i64 (wrap64 (word.tdiv 4)), .bool false], .bool true, .int .i64 0]) ∧ Below w.heap.size w w' := by
  have f1 : (g : Int) / 4 = q := by omega
  have f2 : ¬ (n : Int) ≤ g := by omega
  have f3 : (word == 4 * ((mn : Int) + 4 * q) + 1) = false := beq_eq_false_iff_ne.2 hne
  have r2 : (word.tmod 4 != 0) = false := by simpa using hr
  have HO := hide ho
  clear ho
  have HM := hide hm
  have hq4 : q ≤ 4 := by omega
  have hm4 : mn ≤ 4 := by omega
  clear hm hq
  go_enter Try.func35, Try.ntmps35
  go_wp2_with fail
  refine (may_n n h1 hn _).mono ?_
  rintro r w1 ⟨rfl, rfl⟩
  go_wp2_with fail
  refine (groups_v n mn h1 hn HM.out _).mono ?_
  rintro r w1 ⟨rfl, rfl⟩
  go_wp2_with fail
  refine (owns_v _ true (by simpa using HO.out) _).mono ?_
  rintro r w1 ⟨rfl, rfl⟩
  go_wp2
  go_region
  go_wp2
  exact bodyPost_ret (v := .tuple #[.int .i64 0, .agg #[.int .i64 (wrap64 (word.tdiv 4)), .bool false], .bool true, .int .i64 0]) (by simp [results, Try.results35, go_sem] <;> omega) rfl ⟨rfl, by repeat (first | exact Below.refl _ _ | refine below_drew0 ?_ | refine Below.setCell ?_ (by simp) _ | refine Below.alloc ?_ (by simp) _)⟩
set_option maxHeartbeats 2000000 in
theorem no_lbad (n g q mn : Nat) (word : Int) (h1 : 1 ≤ n) (hn : n ≤ 16) (hg : g < n) (hq : g / 4 = q) (hm : (n + 3) / 4 = mn) (hl : 8 ≤ word) (ho : ¬ (0 ≤ (wrap64 (word - 8)) ∧ (wrap64 (word - 8)) ≤ 4)) (w : World) :
    Calls Try.prog 35 #[.int .i64 n, .int .i64 g, .int .i64 ((mn : Int) + g), .int .i64 word] w fun r w' => r = .returned (.tuple #[.int .i64 0, .agg #[.int .i64 0, .bool false], .bool false, .int .i64 14]) ∧ Below w.heap.size w w' := by
  have f1 : (g : Int) / 4 = q := by omega
  have f2 : ¬ (n : Int) ≤ g := by omega
  have f0 : ((mn : Int) + g == q) = false := by simp; omega
  have f5 : (mn + g == q) = false := by simp; omega
  have HO := hide ho
  clear ho
  have HM := hide hm
  have hq4 : q ≤ 4 := by omega
  have hm4 : mn ≤ 4 := by omega
  clear hm hq
  go_enter Try.func35, Try.ntmps35
  go_wp2_with fail
  refine (may_n n h1 hn _).mono ?_
  rintro r w1 ⟨rfl, rfl⟩
  go_wp2_with fail
  refine (groups_v n mn h1 hn HM.out _).mono ?_
  rintro r w1 ⟨rfl, rfl⟩
  go_wp2_with fail
  refine (owns_v _ false (by simpa using HO.out) _).mono ?_
  rintro r w1 ⟨rfl, rfl⟩
  go_wp2
  exact bodyPost_ret (v := .tuple #[.int .i64 0, .agg #[.int .i64 0, .bool false], .bool false, .int .i64 14]) (by simp [results, Try.results35, go_sem] <;> omega) rfl ⟨rfl, by repeat (first | exact Below.refl _ _ | refine below_drew0 ?_ | refine Below.setCell ?_ (by simp) _ | refine Below.alloc ?_ (by simp) _)⟩
set_option maxHeartbeats 2000000 in
theorem no_lok (n g q mn : Nat) (word : Int) (h1 : 1 ≤ n) (hn : n ≤ 16) (hg : g < n) (hq : g / 4 = q) (hm : (n + 3) / 4 = mn) (hl : 8 ≤ word) (ho : 0 ≤ (wrap64 (word - 8)) ∧ (wrap64 (word - 8)) ≤ 4) (w : World) :
    Calls Try.prog 35 #[.int .i64 n, .int .i64 g, .int .i64 ((mn : Int) + g), .int .i64 word] w fun r w' => r = .returned (.tuple #[.int .i64 0, .agg #[.int .i64 (wrap64 (word - 8)), .bool true], .bool true, .int .i64 0]) ∧ Below w.heap.size w w' := by
  have f1 : (g : Int) / 4 = q := by omega
  have f2 : ¬ (n : Int) ≤ g := by omega
  have f0 : ((mn : Int) + g == q) = false := by simp; omega
  have f5 : (mn + g == q) = false := by simp; omega
  have HO := hide ho
  clear ho
  have HM := hide hm
  have hq4 : q ≤ 4 := by omega
  have hm4 : mn ≤ 4 := by omega
  clear hm hq
  go_enter Try.func35, Try.ntmps35
  go_wp2_with fail
  refine (may_n n h1 hn _).mono ?_
  rintro r w1 ⟨rfl, rfl⟩
  go_wp2_with fail
  refine (groups_v n mn h1 hn HM.out _).mono ?_
  rintro r w1 ⟨rfl, rfl⟩
  go_wp2_with fail
  refine (owns_v _ true (by simpa using HO.out) _).mono ?_
  rintro r w1 ⟨rfl, rfl⟩
  go_wp2
  go_region
  go_wp2
  exact bodyPost_ret (v := .tuple #[.int .i64 0, .agg #[.int .i64 (wrap64 (word - 8)), .bool true], .bool true, .int .i64 0]) (by simp [results, Try.results35, go_sem] <;> omega) rfl ⟨rfl, by repeat (first | exact Below.refl _ _ | refine below_drew0 ?_ | refine Below.setCell ?_ (by simp) _ | refine Below.alloc ?_ (by simp) _)⟩
set_option maxHeartbeats 2000000 in
theorem no_bad (n g q mn : Nat) (word : Int) (h1 : 1 ≤ n) (hn : n ≤ 16) (hg : g < n) (hq : g / 4 = q) (hm : (n + 3) / 4 = mn) (hl : ¬ 8 ≤ word) (ho : ¬ (0 ≤ word ∧ word ≤ 4)) (w : World) :
    Calls Try.prog 35 #[.int .i64 n, .int .i64 g, .int .i64 ((mn : Int) + g), .int .i64 word] w fun r w' => r = .returned (.tuple #[.int .i64 0, .agg #[.int .i64 0, .bool false], .bool false, .int .i64 14]) ∧ Below w.heap.size w w' := by
  have f1 : (g : Int) / 4 = q := by omega
  have f2 : ¬ (n : Int) ≤ g := by omega
  have f0 : ((mn : Int) + g == q) = false := by simp; omega
  have f5 : (mn + g == q) = false := by simp; omega
  have HO := hide ho
  clear ho
  have HM := hide hm
  have hq4 : q ≤ 4 := by omega
  have hm4 : mn ≤ 4 := by omega
  clear hm hq
  go_enter Try.func35, Try.ntmps35
  go_wp2_with fail
  refine (may_n n h1 hn _).mono ?_
  rintro r w1 ⟨rfl, rfl⟩
  go_wp2_with fail
  refine (groups_v n mn h1 hn HM.out _).mono ?_
  rintro r w1 ⟨rfl, rfl⟩
  go_wp2_with fail
  refine (owns_v _ false (by simpa using HO.out) _).mono ?_
  rintro r w1 ⟨rfl, rfl⟩
  go_wp2
  exact bodyPost_ret (v := .tuple #[.int .i64 0, .agg #[.int .i64 0, .bool false], .bool false, .int .i64 14]) (by simp [results, Try.results35, go_sem] <;> omega) rfl ⟨rfl, by repeat (first | exact Below.refl _ _ | refine below_drew0 ?_ | refine Below.setCell ?_ (by simp) _ | refine Below.alloc ?_ (by simp) _)⟩
set_option maxHeartbeats 2000000 in
theorem ne_out (n g q mn : Nat) (at_ word : Int) (h1 : 1 ≤ n) (hn : n ≤ 16) (hg : g < n) (hq : g / 4 = q) (hm : (n + 3) / 4 = mn) (hne : at_ ≠ q ∧ at_ ≠ (mn : Int) + g) (w : World) :
    Calls Try.prog 35 #[.int .i64 n, .int .i64 g, .int .i64 at_, .int .i64 word] w fun r w' => r = .returned (.tuple #[.int .i64 0, .agg #[.int .i64 0, .bool false], .bool false, .int .i64 10]) ∧ Below w.heap.size w w' := by
  have f1 : (g : Int) / 4 = q := by omega
  have f2 : ¬ (n : Int) ≤ g := by omega
  have f3 : (at_ == (q : Int)) = false := beq_eq_false_iff_ne.2 hne.1
  have f4 : (at_ == (mn : Int) + g) = false := beq_eq_false_iff_ne.2 hne.2
  clear hne
  have HM := hide hm
  have hq4 : q ≤ 4 := by omega
  have hm4 : mn ≤ 4 := by omega
  clear hm hq
  go_enter Try.func35, Try.ntmps35
  go_wp2_with fail
  refine (may_n n h1 hn _).mono ?_
  rintro r w1 ⟨rfl, rfl⟩
  go_wp2_with fail
  refine (groups_v n mn h1 hn HM.out _).mono ?_
  rintro r w1 ⟨rfl, rfl⟩
  go_wp2
  exact bodyPost_ret (v := .tuple #[.int .i64 0, .agg #[.int .i64 0, .bool false], .bool false, .int .i64 10]) (by simp [results, Try.results35, go_sem] <;> omega) rfl ⟨rfl, by repeat (first | exact Below.refl _ _ | refine below_drew0 ?_ | refine Below.setCell ?_ (by simp) _ | refine Below.alloc ?_ (by simp) _)⟩
theorem next_any (n g : Nat) (at_ word : Int) (h1 : 1 ≤ n) (hn : n ≤ 16) (hg : g < n) : ∃ nx o lk ov e, (∀ w, Calls Try.prog 35 #[.int .i64 n, .int .i64 g, .int .i64 at_, .int .i64 word] w fun r w' => r = .returned (.tuple #[.int .i64 nx, .agg #[.int .i64 o, .bool lk], .bool ov, .int .i64 e]) ∧ Below w.heap.size w w') ∧ ((e = 14 ∨ e = 10) ∧ nx = 0 ∧ o = 0 ∧ lk = false ∧ ov = false ∨ e = 0 ∧ ov = false ∧ o = 0 ∧ lk = false ∨ e = 0 ∧ ov = true ∧ 0 ≤ o ∧ o ≤ 4) := by
  obtain ⟨q, hq⟩ : ∃ q, g / 4 = q := ⟨_, rfl⟩
  obtain ⟨mn, hm⟩ : ∃ mn, (n + 3) / 4 = mn := ⟨_, rfl⟩
  by_cases ha : at_ = q
  · subst ha
    by_cases hw : word = 4 * ((mn : Int) + 4 * q) + 1
    · subst hw
      exact ⟨_, _, _, _, _, fun w => next_part n g q mn h1 hn hg hq hm w, .inr (.inl ⟨rfl, rfl, rfl, rfl⟩)⟩
    · by_cases hr : word.tmod 4 = 0
      · by_cases ho : 0 ≤ (wrap64 (word.tdiv 4)) ∧ (wrap64 (word.tdiv 4)) ≤ 4
        · exact ⟨_, _, _, _, _, fun w => nf_ok n g q mn word h1 hn hg hq hm hw hr ho w, .inr (.inr ⟨rfl, rfl, ho⟩)⟩
        · exact ⟨_, _, _, _, _, fun w => nf_bad n g q mn word h1 hn hg hq hm hw hr ho w, .inl ⟨.inl rfl, rfl, rfl, rfl, rfl⟩⟩
      · exact ⟨_, _, _, _, _, fun w => nf_form n g q mn word h1 hn hg hq hm hw hr w, .inl ⟨.inl rfl, rfl, rfl, rfl, rfl⟩⟩
  · by_cases hb : at_ = (mn : Int) + g
    · subst hb
      by_cases hl : 8 ≤ word
      · by_cases ho : 0 ≤ (wrap64 (word - 8)) ∧ (wrap64 (word - 8)) ≤ 4
        · exact ⟨_, _, _, _, _, fun w => no_lok n g q mn word h1 hn hg hq hm hl ho w, .inr (.inr ⟨rfl, rfl, ho⟩)⟩
        · exact ⟨_, _, _, _, _, fun w => no_lbad n g q mn word h1 hn hg hq hm hl ho w, .inl ⟨.inl rfl, rfl, rfl, rfl, rfl⟩⟩
      · by_cases ho : 0 ≤ word ∧ word ≤ 4
        · exact ⟨_, _, _, _, _, fun w => next_own n g q mn word ho.1 ho.2 h1 hn hg hq hm w, .inr (.inr ⟨rfl, rfl, ho⟩)⟩
        · exact ⟨_, _, _, _, _, fun w => no_bad n g q mn word h1 hn hg hq hm hl ho w, .inl ⟨.inl rfl, rfl, rfl, rfl, rfl⟩⟩
    · exact ⟨_, _, _, _, _, fun w => ne_out n g q mn at_ word h1 hn hg hq hm ⟨ha, hb⟩ w, .inl ⟨.inr rfl, rfl, rfl, rfl, rfl⟩⟩
end Go.Proofs.Ytfikiophfphmbaa
