/- The first one deleted. -/
import Derived.Test.YtfikiophfphmbaaN6
import Derived.Test.YtfikiophfphmbaaC2
import Derived.WalkKit
import Derived.WalkSpells
import Derived.ProofKit
import Derived.Outline
import Derived.Handy
import Derived.RowKit3
import Derived.BigQuiet
import Derived.Deep.QuietTactic
import Derived.Deep.RegionHeld3
import Derived.Deep.Draws
import Derived.Deep.RegionLaw
import Derived.RegionTactic
import Derived.BigRegion
import Derived.IntWalk
import Derived.LoopTactic
import Derived.OwnWalk
import Derived.Laws.AppendOwn
import Derived.Laws.OwnMore
import Derived.Laws.MakeOwn
import Derived.Laws.Pointers
import Derived.Maps.AppendAt
import Derived.Deep.AppendLies
import Derived.Below
namespace Go.Proofs.Ytfikiophfphmbaa
open Go.RowKit
set_option linter.unusedVariables false
set_option maxRecDepth 100000

theorem run_clear_one (w : World) (ty : TypeId) (b o c : Nat) (hc : ∀ j, j < 2 → (w.cell? ⟨b, o + j, none⟩).isSome = true) (hf : ∀ j, j < 2 → w.frozen? ⟨b, o + j, none⟩ = false) :
    (Builtin.clear_ #[66] ty #[.slice (some ⟨b, o, none⟩) 1 c]).run Try.prog w = .ok (.tuple #[]) (w.setCells b o [.int .i64 0, .int .i64 0]) := by
  have hzc : (Builtin.zeroCells #[.int .i64 0, .int .i64 0] 1).toList = [.int .i64 0, .int .i64 0] := by kernel_rfl
  have hv : ∀ w, (zeroValue 74).run Try.prog w = .ok (.agg #[.int .i64 0, .int .i64 0]) w := fun w => by kernel_rfl
  have hst := run_storeCells_cells (P := Try.prog) b o [.int .i64 0, .int .i64 0] 0 w (by simpa using hc) (by simpa using hf) (by intro v hv'; simp at hv'; subst hv'; rfl)
  simp only [Nat.add_zero] at hst
  simp [Builtin.clear_, run_underlying Try.underlying66, hv, Value.cells, hzc, hst]
set_option maxHeartbeats 2000000 in
theorem del_first (x : Int × Int) (ks : List (Int × Int)) (g0 cp : Nat) (w : World) (h : w.ownsRow 0 74 2 (.slice (some ⟨g0, 0, none⟩) (ks.length + 1) cp) (ks.length + 1) (kcells (x :: ks))) (hcp : ks.length + 1 ≤ cp) (hcm : cp ≤ maxLen) (h8 : ks.length ≤ 8) :
    Calls Try.prog 48 #[.slice (some ⟨g0, 0, none⟩) (ks.length + 1) cp, .int .i64 0, .int .i64 1] w fun r w' => r = .returned (.slice (some ⟨g0, 0, none⟩) ks.length cp) ∧ w'.ownsRow 0 74 2 (.slice (some ⟨g0, 0, none⟩) ks.length cp) ks.length (kcells ks) ∧ Fr (fun k => k = g0) w w' := by
  obtain ⟨i0, hi, hz0, hz1, hz2⟩ := info_parts info74
  have hcell : ∀ j u, (kcells (x :: ks))[j]? = some u → w.cell? ⟨g0, j, none⟩ = some u := fun j u hu => (h.cellAt j (by rw [← h.1]; exact (List.getElem?_eq_some_iff.1 hu).1)).trans hu
  have hlen := kcells_len ks
  obtain ⟨A, hA, hsrc⟩ : ∃ A : Addr, (if cp = 1 then some (⟨g0, 0, none⟩ : Addr) else some ⟨g0, 2, none⟩) = some A ∧ Hid (∀ t u, (kcells ks)[t]? = some u → w.drew.cell? (A.add t) = some u) := by
    by_cases hc : cp = 1
    · refine ⟨⟨g0, 0, none⟩, by simp [hc], fun t u hu => ?_⟩
      have : ks.length = 0 := by omega
      rw [List.length_eq_zero_iff.1 this] at hu
      simp [kcells] at hu
    · refine ⟨⟨g0, 2, none⟩, by simp [hc], fun t u hu => ?_⟩
      rw [add_plain]
      refine hcell (2 + t) u ?_
      show ([Value.int .i64 x.1, .int .i64 x.2] ++ kcells ks)[2 + t]? = some u
      rw [List.getElem?_append_right (by simp)]
      simpa using hu
  have s1 : Hid ((kcells ks).length = ks.length * 2) := hlen
  have s2 : Hid (∀ u ∈ kcells ks, u.oneCell' = true) := kcells_cell ks
  have s3 : Hid (∀ j, j < (kcells ks).length → (w.drew.cell? ⟨g0, 0 + 0 * 2 + j, none⟩).isSome = true ∧ w.drew.frozen? ⟨g0, 0 + 0 * 2 + j, none⟩ = false) := by
    intro j hj
    have hj2 : j < (kcells (x :: ks)).length := by rw [kcells_len] at *; simp; omega
    refine ⟨?_, ?_⟩
    · have := hcell j _ (List.getElem?_eq_getElem hj2)
      rw [show 0 + 0 * 2 + j = j by omega]
      show (w.cell? _).isSome = true
      rw [this]; rfl
    · rw [show 0 + 0 * 2 + j = j by omega]
      exact h.frozenAt j
  have HR := hide h
  have hp1 : (1 : Int) ≤ (ks.length : Int) + 1 := by omega
  clear h hcell hlen
  obtain ⟨n, hn⟩ : ∃ n, n = ks.length := ⟨_, rfl⟩
  have HNn := hide hn
  rw [← hn] at hcp h8 hp1 s1 ⊢
  clear hn
  go_enter Try.func48, Try.ntmps48
  go_wp2_with fail
  go_region_law (refine step_append_room rfl (.tmp 22) (.tmp 25) 66 rfl 74 i0 2 Try.underlying66 hi hz1 g0 0 0 cp (by simp [Act.eval, Act.put]) A n (cp - 1) (kcells ks) (by simp [Act.eval, Act.put]) s1.out hsrc.out s2.out (by omega) s3.out ?_)
  go_wp2_with fail
  have h0 := row_put (kcells ks) w.drew 0 _ (HR.out.drew) (by rw [kcells_len, kcells_len]; simp only [List.length_cons]; omega)
  obtain ⟨hr1, hf1⟩ := h0
  have hclr := fun ty => run_clear_one (w.drew.setCells g0 0 (kcells ks)) ty g0 (n * 2) (cp - n) (by
    intro j hj
    have hj2 : n * 2 + j < (ks.length + 1) * 2 := by have := HNn.out; omega
    rw [hr1.cellAt _ hj2, List.getElem?_eq_getElem (by rw [hr1.1]; exact hj2)]; rfl) (by intro j hj; exact hr1.frozenAt _)
  rw [hclr]
  clear hclr
  obtain ⟨hr2, hf2⟩ := row_put [.int .i64 0, .int .i64 0] _ (n * 2) _ hr1 (by rw [hr1.1]; have := HNn.out; simp only [List.length_cons, List.length_nil]; omega)
  have hr3 := row_short hr2 (m := n) (by have := HNn.out; omega)
  have l1 : (kcells ks).length = n * 2 := s1.out
  have e3 : ∀ (D E : List Value), ((([] ++ kcells ks ++ D).take (n * 2)) ++ [Value.int .i64 0, Value.int .i64 0] ++ E).take (n * 2) = kcells ks := by
    intro D E
    rw [List.nil_append, List.take_left' l1, List.append_assoc, List.take_left' l1]
  rw [List.take_zero, e3] at hr3
  have HR3 := hide hr3
  have HF := hide ((Fr.of_below (S := fun k => k = g0) (below_drew0 (Below.refl w.heap.size w))).trans (hf1.trans hf2 (fun _ _ e => e)) (fun _ _ e => e))
  clear hr1 hr2 hr3 hf1 hf2 e3
  go_wp2
  go_ret
  exact ⟨rfl, HR3.out, HF.out⟩
end Go.Proofs.Ytfikiophfphmbaa
