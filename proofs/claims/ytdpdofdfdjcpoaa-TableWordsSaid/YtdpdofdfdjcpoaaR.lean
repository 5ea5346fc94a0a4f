/- Copy, walked. -/
import Derived.Test.YtdpdofdfdjcpoaaM
import Derived.WalkKit
import Derived.WalkSpells
import Derived.ProofKit
import Derived.Outline
import Derived.Handy
import Derived.RowKit3
import Derived.BigQuiet
import Derived.Deep.QuietTactic
import Derived.Deep.RegionHeld3
import Derived.Deep.Draws
import Derived.RegionTactic
import Derived.BigRegion
import Derived.IntWalk
import Derived.LoopTactic
import Derived.OwnWalk
import Derived.Laws.AppendOwn
import Derived.Laws.OwnMore
import Derived.Laws.MakeOwn
import Derived.Laws.Pointers
import Derived.Maps.AppendAt
import Derived.Below
namespace Go.Proofs.Ytdpdofdfdjcpoaa
open Go.RowKit
set_option linter.unusedVariables false
set_option maxRecDepth 100000

def entL (o : Nat → Int) (l : Nat → Bool) (n : Nat) : List Value := (List.range (n * 2)).map fun j => if j % 2 = 0 then .int .i64 (o (j / 2)) else .bool (l (j / 2))
theorem entL_at (o : Nat → Int) (l : Nat → Bool) {n j : Nat} (h : j < n * 2) : (entL o l n)[j]? = some (if j % 2 = 0 then .int .i64 (o (j / 2)) else .bool (l (j / 2))) := by simp [entL, h]
theorem entL_news {w : World} {P E n : Nat} {o : Nat → Int} {l : Nat → Bool} (h : Tb w P E n o l) : ∀ j u, (entL o l n)[j]? = some u → w.cell? ((⟨E, 0, none⟩ : Addr).add j) = some u := by
  intro j u hu
  have hj : j < n * 2 := by have := (List.getElem?_eq_some_iff.1 hu).1; simpa [entL] using this
  rw [entL_at o l hj] at hu
  rw [add_plain]
  obtain ⟨c0, c1, -, -⟩ := h.2.2.2.2 (j / 2) (by omega)
  by_cases e : j % 2 = 0
  · rw [if_pos e] at hu
    rw [show 0 + j = j / 2 * 2 by omega, ← hu]; exact c0
  · rw [if_neg e] at hu
    rw [show 0 + j = j / 2 * 2 + 1 by omega, ← hu]; exact c1
theorem entL_one (o : Nat → Int) (l : Nat → Bool) (n : Nat) : ∀ u ∈ entL o l n, u.oneCell' = true := by
  intro u hu
  simp only [entL, List.mem_map] at hu
  obtain ⟨j, -, rfl⟩ := hu
  split <;> rfl
theorem nil_slice (E n cp : Nat) (w : World) : Sem.run Try.prog (binOp BinOp.eql 53 (.slice (some ⟨E, 0, none⟩) n cp) (.slice none 0 0)) w = Result.ok (.bool false) w := by kernel_rfl
set_option maxHeartbeats 2000000 in
theorem clone_any (P E n cp : Nat) (o : Nat → Int) (l : Nat → Bool) (hn : n ≤ 16) (h1 : 1 ≤ n) (w : World) (hT : Tb w P E n o l) :
    Calls Try.prog 26 #[.slice (some ⟨E, 0, none⟩) n cp] w fun r w' => ∃ v, r = .returned v ∧ w'.ownsRow w.heap.size 35 2 v n (entL o l n) ∧ Below w.heap.size w w' := by
  obtain ⟨i0, hi, hz0, hz1, hz2⟩ := info_parts info35
  have HT := hide hT
  clear hT
  have hmk := World.ownsRow_made (base := w.heap.size) (e := 35) (size := 2) w #[] 0 (Nat.le_refl _) (by unfold maxLen; omega) rfl
  replace hmk := hide hmk
  have hns := nil_slice E n cp
  go_enter Try.func26, Try.ntmps26
  go_wp2_with (at_builtin; refine wpList_append_own _ rfl _ _ 53 rfl w.heap.size 35 i0 (.agg #[.int .i64 0, .bool false]) 2 16 Try.underlying53 hi hz0 hz1 hz2 rfl (by decide) _ _ _ rfl hmk.out ⟨E, 0, none⟩ n cp (entL o l n) rfl (by simp [entL]) (entL_news (HT.out.alloc _)) (entL_one o l n) (by unfold maxLen; omega) (by omega) (by simp) ?_; intro v' w1 hown' hgrow _)
  go_ret
  refine ⟨v', rfl, ?_, ((Below.refl w.heap.size w).alloc (Nat.le_refl _) _).grown hgrow (by simp) (fun j hj => (hmk.out.lt j hj).1)⟩
  simpa using hown'
theorem owns2_form {w : World} {base n : Nat} {v : Value} {xs : List Value} (h : w.ownsRow base 35 2 v n xs) (hn : 0 < n) : ∃ g cap, v = .slice (some ⟨g, 0, none⟩) n cap ∧ n ≤ cap := by
  rcases h.2 with ⟨_, h0⟩ | ⟨g, cap, _, hv, _, _, hc, _⟩
  · omega
  · exact ⟨g, cap, hv, hc⟩
theorem tb_copy {w : World} {base n g cap : Nat} {o : Nat → Int} {l : Nat → Bool} (h : w.ownsRow base 35 2 (.slice (some ⟨g, 0, none⟩) n cap) n (entL o l n)) (hc : n ≤ cap) :
    Tb (w.alloc (.cells #[.slice (some ⟨g, 0, none⟩) n cap] 55)) w.heap.size g n o l := by
  have hg := (h.lt g rfl).2
  refine ⟨by simp, by simp; omega, by omega, ⟨cap, hc, by simp [go_sem]⟩, fun j hj => ?_⟩
  have a0 := entL_at o l (n := n) (j := j * 2) (by omega)
  have a1 := entL_at o l (n := n) (j := j * 2 + 1) (by omega)
  rw [if_pos (by omega), show j * 2 / 2 = j by omega] at a0
  rw [if_neg (by omega), show (j * 2 + 1) / 2 = j by omega] at a1
  have k0 := h.cells rfl _ _ a0
  have k1 := h.cells rfl _ _ a1
  rw [add_plain, Nat.zero_add] at k0 k1
  have hb : Below w.heap.size w (w.alloc (.cells #[.slice (some ⟨g, 0, none⟩) n cap] 55)) := (Below.refl _ _).alloc (Nat.le_refl _) _
  refine ⟨cell_next hb hg k0, cell_next hb hg k1, (hb.frozen (p := ⟨g, j * 2, none⟩) hg).trans ?_, (hb.frozen (p := ⟨g, j * 2 + 1, none⟩) hg).trans ?_⟩
  all_goals
    obtain ⟨-, ⟨e, -⟩ | ⟨g', cap', cur, hv, _, hh, _⟩⟩ := h
    · simp at e
    · simp at hv
      obtain ⟨rfl, rfl⟩ := hv
      simp [World.frozen?, hh]
set_option maxHeartbeats 2000000 in
theorem copy_any (P E n : Nat) (o : Nat → Int) (l : Nat → Bool) (hn : n ≤ 16) (h1 : 1 ≤ n) (w : World) (hT : Tb w P E n o l) :
    Calls Try.prog 13 #[.pointer (some ⟨P, 0, none⟩)] w fun r w' => ∃ P2 E2, r = .returned (.pointer (some ⟨P2, 0, none⟩)) ∧ Tb w' P2 E2 n o l ∧ w.heap.size ≤ P2 ∧ w.heap.size ≤ E2 ∧ Below w.heap.size w w' := by
  have HT := hide hT
  obtain ⟨cp, hcp, c⟩ := hT.2.2.2.1
  clear hT
  go_enter Try.func13, Try.ntmps13
  go_wp2_with fail
  refine (clone_any P E n cp o l hn h1 _ HT.out).mono ?_
  rintro r w1 ⟨v, rfl, hown, hb⟩
  obtain ⟨g, cap, rfl, hc⟩ := owns2_form hown h1
  have hg := hide (hown.lt g rfl)
  replace hown := hide hown
  go_wp2
  go_ret
  exact ⟨_, _, rfl, tb_copy hown.out hc, hb.size, hg.out.1, hb.alloc hb.size _⟩
end Go.Proofs.Ytdpdofdfdjcpoaa
