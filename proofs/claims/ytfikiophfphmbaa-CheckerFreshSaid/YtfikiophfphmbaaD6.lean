/- Drop of what is known, beside a walk. -/
import Derived.Test.YtfikiophfphmbaaD2
import Derived.Test.YtfikiophfphmbaaQ4
import Derived.Test.YtfikiophfphmbaaN8
import Derived.WalkKit
import Derived.WalkSpells
import Derived.ProofKit
import Derived.Outline
import Derived.Handy
import Derived.RowKit3
import Derived.BigQuiet
import Derived.Deep.QuietTactic
import Derived.Deep.RegionHeld3
import Derived.Deep.Draws
import Derived.Deep.RegionLaw
import Derived.RegionTactic
import Derived.BigRegion
import Derived.IntWalk
import Derived.LoopTactic
import Derived.OwnWalk
import Derived.Laws.AppendOwn
import Derived.Laws.OwnMore
import Derived.Laws.MakeOwn
import Derived.Laws.Pointers
import Derived.Maps.AppendAt
import Derived.Deep.AppendLies
import Derived.Below
import Derived.Laws.EntriesVeiled
namespace Go.Proofs.Ytfikiophfphmbaa
open Go.RowKit
set_option linter.unusedVariables false
set_option maxRecDepth 100000

section
variable {P en gs : Nat} {ws st : Bool} {gr at_ : Int} {v : Value} {ks : List (Int × Int)}
set_option maxHeartbeats 4000000 in
theorem drop_other_yes (w : World) (g : Nat) (hne : gr ≠ (g : Int)) (hg : g < gs) (i : Nat) (o : Int) (hi : ks[i]? = some ((g : Int), o)) (hno : ∀ j x, j < i → ks[j]? = some x → x.1 ≠ (g : Int)) (hno2 : ∀ j x, i < j → ks[j]? = some x → x.1 ≠ (g : Int)) (h : Ck w P true st gr at_ en gs v ks) : Calls Try.prog 12 #[.pointer (some ⟨P, 0, none⟩), .int .i64 g] w fun r w' => r = .returned (.tuple #[.int .i64 1, .int .i64 0]) ∧ ∃ v', Ck w' P true st gr at_ en gs v' (ks.eraseIdx i) ∧ Fr (Ck.S P v) w w' ∧ v'.ownBlock = v.ownBlock := by
  have hil : i < ks.length := (List.getElem?_eq_some_iff.1 hi).1
  obtain ⟨g0, sc, hv, k1, k3, k4⟩ : ∃ g0 c, v = .slice (some ⟨g0, 0, none⟩) ks.length c ∧ ks.length ≤ c ∧ g0 < w.heap.size ∧ g0 ≠ P := by
    rcases h.form with ⟨rfl, rfl⟩ | ⟨g0, cp, rfl, k1, k2, k3, k4, -⟩
    · simp at hi
    · exact ⟨_, _, rfl, k1, k3, k4⟩
  have HI := hide hi
  have HN2 := hide hno2
  have hle := h.le
  have HV := hide hv
  have HNE := hide (beq_eq_false_iff_ne.2 hne)
  have H := hide h
  have HN := hide hno
  clear h hno hv hne hi hno2
  go_enter Try.func12, Try.ntmps12
  go_wp2_with fail
  refine (has_any (g : Int) true (by simp; omega) _ (H.out.next ((Below.refl _ _).alloc (Nat.le_refl _) _))).mono ?_
  rintro r w1 ⟨rfl, hb1⟩
  have e0 : w1.cell? ⟨w.heap.size, 0, none⟩ = some (.int .i64 g) := (hb1.cell (p := ⟨w.heap.size, 0, none⟩) (by simp)).trans (World.cell?_alloc_new w _ 3 0)
  have l0 : w.heap.size < w1.heap.size := Nat.lt_of_lt_of_le (by simp) hb1.size
  have B1 := hide (below_alloc hb1)
  have H1 := hide ((H.out.next ((Below.refl _ _).alloc (Nat.le_refl _) _)).next hb1)
  have c0 := H1.out.c0
  have c1 := H1.out.c1
  have c2 := H1.out.c2
  have c3 := H1.out.c3
  have c6 := H1.out.c6
  have hP := H1.out.hP
  clear hb1
  go_wp2_with fail
  have hbA : Below w1.heap.size w1 (w1.alloc (.cells #[.func (.func 29) #[] #[.pointer (some ⟨w.heap.size, 0, none⟩)]] 69)).drew := below_drew0 ((Below.refl _ _).alloc (Nat.le_refl _) _)
  have d0 := cell_next hbA hP c0
  have d2 := cell_next hbA hP c2
  have e1 := cell_next hbA l0 e0
  have q0 : (w1.alloc (.cells #[.func (.func 29) #[] #[.pointer (some ⟨w.heap.size, 0, none⟩)]] 69)).drew.cell? ⟨w1.heap.size, 0, none⟩ = some (.func (.func 29) #[] #[.pointer (some ⟨w.heap.size, 0, none⟩)]) := World.cell?_alloc_new w1 _ 69 0
  refine wp_region_held_drew (S := fun W => (W.cell? ⟨P, 0, none⟩ = some (.bool true) ∧ W.cell? ⟨P, 2, none⟩ = some (.int .i64 gr)) ∧ W.cell? ⟨w1.heap.size, 0, none⟩ = some (.func (.func 29) #[] #[.pointer (some ⟨w.heap.size, 0, none⟩)])) (by kernel_rfl) ?_ (fun hHeld => ?_)
  · exact ⟨⟨d0, d2⟩, q0⟩
  refine wpAnyH_take (i := 0) (v := ?_) rfl (by kernel_rfl) (by kernel_rfl) (by kernel_rfl) (fun _ _ _ h => h) (Or.inl ⟨by rfl, ?_⟩) hHeld ?_
  rotate_left
  · intro w' hSw
    try dsimp only at hSw
    go_simp
    all_goals with_reducible rfl
  try simp only [List.getElem_toArray, List.getElem_cons_zero, Act.put, List.setIfInBounds_toArray, List.set_cons_zero, List.set_cons_succ]
  refine wpAnyH_take (i := 1) (v := ?_) rfl (by kernel_rfl) (by kernel_rfl) (by kernel_rfl) (fun _ _ _ h => h) (Or.inl ⟨by rfl, ?_⟩) hHeld ?_
  rotate_left
  · intro w' hSw
    try dsimp only at hSw
    go_simp
    all_goals with_reducible rfl
  try simp only [List.getElem_toArray, List.getElem_cons_succ, List.getElem_cons_zero, Act.put, List.setIfInBounds_toArray, List.set_cons_zero, List.set_cons_succ]
  refine wpAnyH_take (i := 2) (v := ?_) rfl (by kernel_rfl) (by kernel_rfl) (by kernel_rfl) (fun _ _ _ h => h) (Or.inl ⟨by rfl, ?_⟩) hHeld ?_
  rotate_left
  · intro w' hSw
    try dsimp only at hSw
    go_simp
    all_goals with_reducible rfl
  try simp only [List.getElem_toArray, List.getElem_cons_succ, List.getElem_cons_zero, Act.put, List.setIfInBounds_toArray, List.set_cons_zero, List.set_cons_succ]
  refine wpAnyH_take (i := 3) (v := ?_) rfl (by kernel_rfl) (by kernel_rfl) (by kernel_rfl) (fun _ _ _ h => h) (Or.inl ⟨by rfl, ?_⟩) hHeld ?_
  rotate_left
  · intro w' hSw
    try dsimp only at hSw
    go_simp
    all_goals with_reducible rfl
  try simp only [List.getElem_toArray, List.getElem_cons_succ, List.getElem_cons_zero, Act.put, List.setIfInBounds_toArray, List.set_cons_zero, List.set_cons_succ]
  refine wpAnyH_take (i := 4) (v := ?_) rfl (by kernel_rfl) (by kernel_rfl) (by kernel_rfl) (fun _ _ _ h => h) (Or.inl ⟨by rfl, ?_⟩) hHeld ?_
  rotate_left
  · intro w' hSw
    try dsimp only at hSw
    go_simp
    all_goals with_reducible rfl
  try simp only [List.getElem_toArray, List.getElem_cons_succ, List.getElem_cons_zero, Act.put, List.setIfInBounds_toArray, List.set_cons_zero, List.set_cons_succ]
  refine wpAnyH_take (i := 5) (v := ?_) rfl (by kernel_rfl) (by kernel_rfl) (by kernel_rfl) (fun _ _ _ h => h) (Or.inl ⟨by rfl, ?_⟩) hHeld ?_
  rotate_left
  · intro w' hSw
    try dsimp only at hSw
    go_simp
    all_goals with_reducible rfl
  try simp only [List.getElem_toArray, List.getElem_cons_succ, List.getElem_cons_zero, Act.put, List.setIfInBounds_toArray, List.set_cons_zero, List.set_cons_succ]
  refine wpAnyH_take (i := 6) (v := ?_) rfl (by kernel_rfl) (by kernel_rfl) (by kernel_rfl) (fun _ _ _ h => h) (Or.inl ⟨by rfl, ?_⟩) hHeld ?_
  rotate_left
  · intro w' hSw
    try dsimp only at hSw
    go_simp
    all_goals with_reducible rfl
  try simp only [List.getElem_toArray, List.getElem_cons_succ, List.getElem_cons_zero, Act.put, List.setIfInBounds_toArray, List.set_cons_zero, List.set_cons_succ]
  refine wpAnyH_take (i := 7) (v := ?_) rfl (by kernel_rfl) (by kernel_rfl) (by kernel_rfl) (fun _ _ _ h => h) (Or.inl ⟨by rfl, ?_⟩) hHeld ?_
  rotate_left
  · intro w' hSw
    try dsimp only at hSw
    go_simp
    all_goals with_reducible rfl
  try simp only [List.getElem_toArray, List.getElem_cons_succ, List.getElem_cons_zero, Act.put, List.setIfInBounds_toArray, List.set_cons_zero, List.set_cons_succ]
  refine wpAnyH_take (i := 8) (v := ?_) rfl (by kernel_rfl) (by kernel_rfl) (by kernel_rfl) (fun _ _ _ h => h) (Or.inl ⟨by rfl, ?_⟩) hHeld ?_
  rotate_left
  · intro w' hSw
    try dsimp only at hSw
    go_simp
    all_goals with_reducible rfl
  try simp only [List.getElem_toArray, List.getElem_cons_succ, List.getElem_cons_zero, Act.put, List.setIfInBounds_toArray, List.set_cons_zero, List.set_cons_succ]
  refine wpAnyH_take (i := 9) (v := ?_) rfl (by kernel_rfl) (by kernel_rfl) (by kernel_rfl) (fun _ _ _ h => h) (Or.inl ⟨by rfl, ?_⟩) hHeld ?_
  rotate_left
  · intro w' hSw
    try dsimp only at hSw
    go_simp
    all_goals with_reducible rfl
  try simp only [List.getElem_toArray, List.getElem_cons_succ, List.getElem_cons_zero, Act.put, List.setIfInBounds_toArray, List.set_cons_zero, List.set_cons_succ]
  refine wpAnyH_take (i := 10) (v := ?_) rfl (by kernel_rfl) (by kernel_rfl) (by kernel_rfl) (fun _ _ _ h => h) (Or.inl ⟨by rfl, ?_⟩) hHeld ?_
  rotate_left
  · intro w' hSw
    try dsimp only at hSw
    go_simp
    all_goals with_reducible rfl
  try simp only [List.getElem_toArray, List.getElem_cons_succ, List.getElem_cons_zero, Act.put, List.setIfInBounds_toArray, List.set_cons_zero, List.set_cons_succ]
  refine wpAnyH_take (i := 11) (v := ?_) rfl (by kernel_rfl) (by kernel_rfl) (by kernel_rfl) (fun _ _ _ h => h) (Or.inl ⟨by rfl, ?_⟩) hHeld ?_
  rotate_left
  · intro w' hSw
    try dsimp only at hSw
    go_simp
    all_goals with_reducible rfl
  try simp only [List.getElem_toArray, List.getElem_cons_succ, List.getElem_cons_zero, Act.put, List.setIfInBounds_toArray, List.set_cons_zero, List.set_cons_succ]
  refine wpAnyH_ready (rs := [12]) (by kernel_rfl) (by simp) ?_
  refine AllReadyH.cons rfl (fun K hK => ?_) AllReadyH.nil
  go_simp
  refine (meant_is (g : Int) gr w.heap.size false (by omega) HNE.out _ e1).mono ?_
  rintro r w2 ⟨rfl, hb2⟩
  refine hK.out _ _ ?_ (fun hHeld => ?_)
  · (try dsimp only)
    exact ⟨⟨cell_next hb2 (by simp; omega) d0, cell_next hb2 (by simp; omega) d2⟩, cell_next hb2 (by simp) q0⟩
  clear hK K
  refine wpAnyH_take (i := 13) (v := ?_) rfl (by kernel_rfl) (by kernel_rfl) (by kernel_rfl) (fun _ _ _ h => h) (Or.inl ⟨by rfl, ?_⟩) hHeld ?_
  rotate_left
  · intro w' hSw
    try dsimp only at hSw
    go_simp
    all_goals with_reducible rfl
  try simp only [List.getElem_toArray, List.getElem_cons_succ, List.getElem_cons_zero, Act.put, List.setIfInBounds_toArray, List.set_cons_zero, List.set_cons_succ]
  refine wpAnyH_done (by kernel_rfl) ?_ _
  have H2 := hide ((H1.out.next hbA).next hb2)
  have B2 := hide (below_step (below_step B1.out B1.out.size hbA) (Nat.le_trans B1.out.size (by simp)) hb2)
  have q2 := hide (cell_next hb2 (by simp) q0)
  have e2 := hide (cell_next hb2 (by simp; omega) e1)
  have l2 : w1.heap.size < w2.heap.size := Nat.lt_of_lt_of_le (by simp) hb2.size
  clear c0 c1 c2 c3 c6 d0 d2 e0 e1 q0 hbA hb2 hHeld
  have c6 : w2.cell? ⟨P, 6, none⟩ = some (.slice (some ⟨g0, 0, none⟩) ks.length sc) := H2.out.c6.trans (by rw [HV.out])
  go_wp2_with fail
  have H2' : Ck w2 P true st gr at_ en gs (.slice (some ⟨g0, 0, none⟩) ks.length sc) ks := by have := H2.out; rw [HV.out] at this; exact this
  have hD := del_yes (g : Int) o i w.heap.size w1.heap.size g0 sc (by omega) HI.out HN.out HN2.out _ H2' k1 (by omega) l2 (by omega) (by omega) (by omega) e2.out q2.out
  refine hD.mono ?_
  rintro r w3 ⟨rfl, hown, f3⟩
  have hlen : (ks.eraseIdx i).length = ks.length - 1 := List.length_eraseIdx_of_lt hil
  have H4 := hide (H2'.rowed f3 (Ne.symm k4) (v' := .slice (some ⟨g0, 0, none⟩) (ks.length - 1) sc) (ks' := ks.eraseIdx i) (by rw [hlen]; exact hown) (by simp [Value.ownBlock]; exact k4) (by rw [hlen]; omega))
  have F4 := hide ((((Fr.of_below (S := Ck.S P v) B2.out).trans f3 (fun _ _ e => .inr (by rw [HV.out, e]; rfl))).setCell (p := ⟨P, 6, none⟩) (fun _ => .inl rfl) (.slice (some ⟨g0, 0, none⟩) (ks.length - 1) sc)))
  have d6 := (f3.cell (by omega) (Ne.symm k4)).trans c6
  have f6 := (f3.frozen (o := 6) (by omega) (Ne.symm k4)).trans (H2'.f 6 (by omega))
  have l3 : P < w3.heap.size := Nat.lt_of_lt_of_le (by omega) f3.size
  have x6 := H4.out.c6
  have hsub : (ks.length : Int) - ((ks.length - 1 : Nat) : Int) = 1 := by omega
  clear hD hown f3 c6 H2'
  go_wp2
  go_ret2
  exact ⟨by first | rfl | (simp; omega) | (rw [hsub]), _, H4.out, F4.out, by rw [HV.out]; rfl⟩
end
end Go.Proofs.Ytfikiophfphmbaa
