/- Drop of all. -/
import Derived.Test.YtfikiophfphmbaaX1
import Derived.Test.YtfikiophfphmbaaN8
import Derived.WalkKit
import Derived.WalkSpells
import Derived.ProofKit
import Derived.Outline
import Derived.Handy
import Derived.RowKit3
import Derived.BigQuiet
import Derived.Deep.QuietTactic
import Derived.Deep.RegionHeld3
import Derived.Deep.Draws
import Derived.Deep.RegionLaw
import Derived.RegionTactic
import Derived.BigRegion
import Derived.IntWalk
import Derived.LoopTactic
import Derived.OwnWalk
import Derived.Laws.AppendOwn
import Derived.Laws.OwnMore
import Derived.Laws.MakeOwn
import Derived.Laws.Pointers
import Derived.Maps.AppendAt
import Derived.Deep.AppendLies
import Derived.Below
import Derived.Laws.EntriesVeiled
namespace Go.Proofs.Ytfikiophfphmbaa
open Go.RowKit
set_option linter.unusedVariables false
set_option maxRecDepth 100000

def DrR (P : Nat) (ws st : Bool) (gr at_ : Int) (en gs : Nat) (v : Value) (w : World) (r : Ending) (w' : World) : Prop := (∃ n, r = .returned (.tuple #[.int .i64 n, .int .i64 0])) ∧ ∃ v', Ck w' P ws st gr at_ en gs v' [] ∧ Fr (Ck.S P v) w w' ∧ v'.ownBlock = v.ownBlock
section
variable {P en gs : Nat} {ws st : Bool} {gr at_ : Int} {v : Value} {ks : List (Int × Int)}
set_option maxHeartbeats 4000000 in
theorem drop_all_still (x : Int × Int) (w : World) (h : Ck w P false st gr at_ en gs v (x :: ks)) : Calls Try.prog 12 #[.pointer (some ⟨P, 0, none⟩), .int .i64 (-1)] w (DrR P false st gr at_ en gs v w) := by
  obtain ⟨g0, sc, rfl, k1, k3, k4⟩ : ∃ g0 c, v = .slice (some ⟨g0, 0, none⟩) (x :: ks).length c ∧ (x :: ks).length ≤ c ∧ g0 < w.heap.size ∧ g0 ≠ P := by
    rcases h.form with ⟨rfl, e⟩ | ⟨g0, cp, rfl, k1, k2, k3, k4, -⟩
    · cases e
    · exact ⟨_, _, rfl, k1, k3, k4⟩
  have hle := h.le
  have h8 := h.e8
  have H := hide h
  have c0 := h.c0
  have c1 := h.c1
  have c2 := h.c2
  have c6 := h.c6
  have hP := h.hP
  clear h
  go_enter Try.func12, Try.ntmps12
  go_wp2_with fail
  have hbA : Below w.heap.size w ((w.alloc (.cells #[.int .i64 (-1)] 3)).alloc (.cells #[.func (.func 29) #[] #[.pointer (some ⟨w.heap.size, 0, none⟩)]] 69)).drew := below_drew0 (((Below.refl _ _).alloc (Nat.le_refl _) _).alloc (by simp) _)
  have d0 := cell_next hbA hP c0
  have d2 := cell_next hbA hP c2
  have e1 : ((w.alloc (.cells #[.int .i64 (-1)] 3)).alloc (.cells #[.func (.func 29) #[] #[.pointer (some ⟨w.heap.size, 0, none⟩)]] 69)).drew.cell? ⟨w.heap.size, 0, none⟩ = some (.int .i64 (-1)) := (World.cell?_alloc_lt (w.alloc (.cells #[.int .i64 (-1)] 3)) _ ⟨w.heap.size, 0, none⟩ (by simp)).trans (World.cell?_alloc_new w _ 3 0)
  have q0 : ((w.alloc (.cells #[.int .i64 (-1)] 3)).alloc (.cells #[.func (.func 29) #[] #[.pointer (some ⟨w.heap.size, 0, none⟩)]] 69)).drew.cell? ⟨w.heap.size + 1, 0, none⟩ = some (.func (.func 29) #[] #[.pointer (some ⟨w.heap.size, 0, none⟩)]) := by simp
  refine wp_region_held_drew (S := fun W => (W.cell? ⟨P, 0, none⟩ = some (.bool false) ∧ W.cell? ⟨P, 2, none⟩ = some (.int .i64 gr)) ∧ W.cell? ⟨w.heap.size + 1, 0, none⟩ = some (.func (.func 29) #[] #[.pointer (some ⟨w.heap.size, 0, none⟩)])) (by kernel_rfl) ?_ (fun hHeld => ?_)
  · exact ⟨⟨d0, d2⟩, q0⟩
  refine wpAnyH_take (i := 0) (v := ?_) rfl (by kernel_rfl) (by kernel_rfl) (by kernel_rfl) (fun _ _ _ h => h) (Or.inl ⟨by rfl, ?_⟩) hHeld ?_
  rotate_left
  · intro w' hSw
    try dsimp only at hSw
    go_simp
    all_goals with_reducible rfl
  try simp only [List.getElem_toArray, List.getElem_cons_zero, Act.put, List.setIfInBounds_toArray, List.set_cons_zero, List.set_cons_succ]
  refine wpAnyH_take (i := 1) (v := ?_) rfl (by kernel_rfl) (by kernel_rfl) (by kernel_rfl) (fun _ _ _ h => h) (Or.inl ⟨by rfl, ?_⟩) hHeld ?_
  rotate_left
  · intro w' hSw
    try dsimp only at hSw
    go_simp
    all_goals with_reducible rfl
  try simp only [List.getElem_toArray, List.getElem_cons_succ, List.getElem_cons_zero, Act.put, List.setIfInBounds_toArray, List.set_cons_zero, List.set_cons_succ]
  refine wpAnyH_take (i := 2) (v := ?_) rfl (by kernel_rfl) (by kernel_rfl) (by kernel_rfl) (fun _ _ _ h => h) (Or.inl ⟨by rfl, ?_⟩) hHeld ?_
  rotate_left
  · intro w' hSw
    try dsimp only at hSw
    go_simp
    all_goals with_reducible rfl
  try simp only [List.getElem_toArray, List.getElem_cons_succ, List.getElem_cons_zero, Act.put, List.setIfInBounds_toArray, List.set_cons_zero, List.set_cons_succ]
  refine wpAnyH_take (i := 3) (v := ?_) rfl (by kernel_rfl) (by kernel_rfl) (by kernel_rfl) (fun _ _ _ h => h) (Or.inl ⟨by rfl, ?_⟩) hHeld ?_
  rotate_left
  · intro w' hSw
    try dsimp only at hSw
    go_simp
    all_goals with_reducible rfl
  try simp only [List.getElem_toArray, List.getElem_cons_succ, List.getElem_cons_zero, Act.put, List.setIfInBounds_toArray, List.set_cons_zero, List.set_cons_succ]
  refine wpAnyH_take (i := 4) (v := ?_) rfl (by kernel_rfl) (by kernel_rfl) (by kernel_rfl) (fun _ _ _ h => h) (Or.inl ⟨by rfl, ?_⟩) hHeld ?_
  rotate_left
  · intro w' hSw
    try dsimp only at hSw
    go_simp
    all_goals with_reducible rfl
  try simp only [List.getElem_toArray, List.getElem_cons_succ, List.getElem_cons_zero, Act.put, List.setIfInBounds_toArray, List.set_cons_zero, List.set_cons_succ]
  refine wpAnyH_take (i := 5) (v := ?_) rfl (by kernel_rfl) (by kernel_rfl) (by kernel_rfl) (fun _ _ _ h => h) (Or.inl ⟨by rfl, ?_⟩) hHeld ?_
  rotate_left
  · intro w' hSw
    try dsimp only at hSw
    go_simp
    all_goals with_reducible rfl
  try simp only [List.getElem_toArray, List.getElem_cons_succ, List.getElem_cons_zero, Act.put, List.setIfInBounds_toArray, List.set_cons_zero, List.set_cons_succ]
  refine wpAnyH_take (i := 6) (v := undef) rfl (by kernel_rfl) (by kernel_rfl) (by kernel_rfl) (fun _ _ _ h => h) (Or.inr ⟨by rfl, rfl⟩) hHeld ?_
  try simp only [List.getElem_toArray, List.getElem_cons_succ, List.getElem_cons_zero, Act.put, List.setIfInBounds_toArray, List.set_cons_zero, List.set_cons_succ]
  refine wpAnyH_take (i := 7) (v := undef) rfl (by kernel_rfl) (by kernel_rfl) (by kernel_rfl) (fun _ _ _ h => h) (Or.inr ⟨by rfl, rfl⟩) hHeld ?_
  try simp only [List.getElem_toArray, List.getElem_cons_succ, List.getElem_cons_zero, Act.put, List.setIfInBounds_toArray, List.set_cons_zero, List.set_cons_succ]
  refine wpAnyH_take (i := 8) (v := undef) rfl (by kernel_rfl) (by kernel_rfl) (by kernel_rfl) (fun _ _ _ h => h) (Or.inr ⟨by rfl, rfl⟩) hHeld ?_
  try simp only [List.getElem_toArray, List.getElem_cons_succ, List.getElem_cons_zero, Act.put, List.setIfInBounds_toArray, List.set_cons_zero, List.set_cons_succ]
  refine wpAnyH_take (i := 9) (v := undef) rfl (by kernel_rfl) (by kernel_rfl) (by kernel_rfl) (fun _ _ _ h => h) (Or.inr ⟨by rfl, rfl⟩) hHeld ?_
  try simp only [List.getElem_toArray, List.getElem_cons_succ, List.getElem_cons_zero, Act.put, List.setIfInBounds_toArray, List.set_cons_zero, List.set_cons_succ]
  refine wpAnyH_take (i := 10) (v := undef) rfl (by kernel_rfl) (by kernel_rfl) (by kernel_rfl) (fun _ _ _ h => h) (Or.inr ⟨by rfl, rfl⟩) hHeld ?_
  try simp only [List.getElem_toArray, List.getElem_cons_succ, List.getElem_cons_zero, Act.put, List.setIfInBounds_toArray, List.set_cons_zero, List.set_cons_succ]
  refine wpAnyH_take (i := 11) (v := undef) rfl (by kernel_rfl) (by kernel_rfl) (by kernel_rfl) (fun _ _ _ h => h) (Or.inr ⟨by rfl, rfl⟩) hHeld ?_
  try simp only [List.getElem_toArray, List.getElem_cons_succ, List.getElem_cons_zero, Act.put, List.setIfInBounds_toArray, List.set_cons_zero, List.set_cons_succ]
  refine wpAnyH_take (i := 12) (v := undef) rfl (by kernel_rfl) (by kernel_rfl) (by kernel_rfl) (fun _ _ _ h => h) (Or.inr ⟨by rfl, rfl⟩) hHeld ?_
  try simp only [List.getElem_toArray, List.getElem_cons_succ, List.getElem_cons_zero, Act.put, List.setIfInBounds_toArray, List.set_cons_zero, List.set_cons_succ]
  refine wpAnyH_take (i := 13) (v := ?_) rfl (by kernel_rfl) (by kernel_rfl) (by kernel_rfl) (fun _ _ _ h => h) (Or.inl ⟨by rfl, ?_⟩) hHeld ?_
  rotate_left
  · intro w' hSw
    try dsimp only at hSw
    go_simp
    all_goals with_reducible rfl
  try simp only [List.getElem_toArray, List.getElem_cons_succ, List.getElem_cons_zero, Act.put, List.setIfInBounds_toArray, List.set_cons_zero, List.set_cons_succ]
  refine wpAnyH_done (by kernel_rfl) ?_ _
  have H3 := hide (H.out.next hbA)
  have F3 := hide (Fr.of_below (S := fun k => k = P) hbA)
  have q3 := q0
  have e3 := e1
  have l3 : w.heap.size + 1 < ((w.alloc (.cells #[.int .i64 (-1)] 3)).alloc (.cells #[.func (.func 29) #[] #[.pointer (some ⟨w.heap.size, 0, none⟩)]] 69)).drew.heap.size := by simp
  clear c0 c1 c2 c6 d0 d2 hHeld
  have m3 := H3.out.c6
  go_wp2_with fail
  refine (del_all x w.heap.size (w.heap.size + 1) g0 sc _ H3.out k1 (by omega) l3 (by omega) e3 q3).mono ?_
  rintro r w4 ⟨rfl, hown, f4⟩
  have H4 := hide (H3.out.rowed f4 (Ne.symm k4) (v' := .slice (some ⟨g0, 0, none⟩) 0 sc) (ks' := []) hown (by simp [Value.ownBlock]; exact k4) (Nat.zero_le _))
  have F4 := hide ((((F3.out.mono (T := Ck.S P (.slice (some ⟨g0, 0, none⟩) (x :: ks).length sc)) (fun _ _ e => .inl e)).trans f4 (fun _ _ e => .inr (by rw [e]; rfl))).setCell (p := ⟨P, 6, none⟩) (fun _ => .inl rfl) (.slice (some ⟨g0, 0, none⟩) 0 sc)))
  have d6 := (f4.cell (p := P) (o := 6) (by omega) (Ne.symm k4)).trans H3.out.c6
  have f6 := (f4.frozen (p := P) (o := 6) (by omega) (Ne.symm k4)).trans (H3.out.f 6 (by omega))
  have l4 : P < w4.heap.size := Nat.lt_of_lt_of_le (by omega) f4.size
  have x6 := H4.out.c6
  clear hown f4 q3 e3
  go_wp2
  go_ret2
  exact ⟨⟨_, rfl⟩, _, H4.out, F4.out, rfl⟩
set_option maxHeartbeats 4000000 in
theorem drop_all_still_nil (w : World) (h : Ck w P false st gr at_ en gs v []) : Calls Try.prog 12 #[.pointer (some ⟨P, 0, none⟩), .int .i64 (-1)] w (DrR P false st gr at_ en gs v w) := by
  obtain ⟨sa, sc, rfl⟩ : ∃ a c, v = .slice a 0 c := by
    rcases h.form with ⟨rfl, -⟩ | ⟨g0, cp, rfl, -⟩
    · exact ⟨none, 0, rfl⟩
    · exact ⟨_, _, rfl⟩
  have hle := h.le
  have h8 := h.e8
  have H := hide h
  have c0 := h.c0
  have c1 := h.c1
  have c2 := h.c2
  have c6 := h.c6
  have hP := h.hP
  clear h
  go_enter Try.func12, Try.ntmps12
  go_wp2_with fail
  have hbA : Below w.heap.size w ((w.alloc (.cells #[.int .i64 (-1)] 3)).alloc (.cells #[.func (.func 29) #[] #[.pointer (some ⟨w.heap.size, 0, none⟩)]] 69)).drew := below_drew0 (((Below.refl _ _).alloc (Nat.le_refl _) _).alloc (by simp) _)
  have d0 := cell_next hbA hP c0
  have d2 := cell_next hbA hP c2
  have e1 : ((w.alloc (.cells #[.int .i64 (-1)] 3)).alloc (.cells #[.func (.func 29) #[] #[.pointer (some ⟨w.heap.size, 0, none⟩)]] 69)).drew.cell? ⟨w.heap.size, 0, none⟩ = some (.int .i64 (-1)) := (World.cell?_alloc_lt (w.alloc (.cells #[.int .i64 (-1)] 3)) _ ⟨w.heap.size, 0, none⟩ (by simp)).trans (World.cell?_alloc_new w _ 3 0)
  have q0 : ((w.alloc (.cells #[.int .i64 (-1)] 3)).alloc (.cells #[.func (.func 29) #[] #[.pointer (some ⟨w.heap.size, 0, none⟩)]] 69)).drew.cell? ⟨w.heap.size + 1, 0, none⟩ = some (.func (.func 29) #[] #[.pointer (some ⟨w.heap.size, 0, none⟩)]) := by simp
  refine wp_region_held_drew (S := fun W => (W.cell? ⟨P, 0, none⟩ = some (.bool false) ∧ W.cell? ⟨P, 2, none⟩ = some (.int .i64 gr)) ∧ W.cell? ⟨w.heap.size + 1, 0, none⟩ = some (.func (.func 29) #[] #[.pointer (some ⟨w.heap.size, 0, none⟩)])) (by kernel_rfl) ?_ (fun hHeld => ?_)
  · exact ⟨⟨d0, d2⟩, q0⟩
  refine wpAnyH_take (i := 0) (v := ?_) rfl (by kernel_rfl) (by kernel_rfl) (by kernel_rfl) (fun _ _ _ h => h) (Or.inl ⟨by rfl, ?_⟩) hHeld ?_
  rotate_left
  · intro w' hSw
    try dsimp only at hSw
    go_simp
    all_goals with_reducible rfl
  try simp only [List.getElem_toArray, List.getElem_cons_zero, Act.put, List.setIfInBounds_toArray, List.set_cons_zero, List.set_cons_succ]
  refine wpAnyH_take (i := 1) (v := ?_) rfl (by kernel_rfl) (by kernel_rfl) (by kernel_rfl) (fun _ _ _ h => h) (Or.inl ⟨by rfl, ?_⟩) hHeld ?_
  rotate_left
  · intro w' hSw
    try dsimp only at hSw
    go_simp
    all_goals with_reducible rfl
  try simp only [List.getElem_toArray, List.getElem_cons_succ, List.getElem_cons_zero, Act.put, List.setIfInBounds_toArray, List.set_cons_zero, List.set_cons_succ]
  refine wpAnyH_take (i := 2) (v := ?_) rfl (by kernel_rfl) (by kernel_rfl) (by kernel_rfl) (fun _ _ _ h => h) (Or.inl ⟨by rfl, ?_⟩) hHeld ?_
  rotate_left
  · intro w' hSw
    try dsimp only at hSw
    go_simp
    all_goals with_reducible rfl
  try simp only [List.getElem_toArray, List.getElem_cons_succ, List.getElem_cons_zero, Act.put, List.setIfInBounds_toArray, List.set_cons_zero, List.set_cons_succ]
  refine wpAnyH_take (i := 3) (v := ?_) rfl (by kernel_rfl) (by kernel_rfl) (by kernel_rfl) (fun _ _ _ h => h) (Or.inl ⟨by rfl, ?_⟩) hHeld ?_
  rotate_left
  · intro w' hSw
    try dsimp only at hSw
    go_simp
    all_goals with_reducible rfl
  try simp only [List.getElem_toArray, List.getElem_cons_succ, List.getElem_cons_zero, Act.put, List.setIfInBounds_toArray, List.set_cons_zero, List.set_cons_succ]
  refine wpAnyH_take (i := 4) (v := ?_) rfl (by kernel_rfl) (by kernel_rfl) (by kernel_rfl) (fun _ _ _ h => h) (Or.inl ⟨by rfl, ?_⟩) hHeld ?_
  rotate_left
  · intro w' hSw
    try dsimp only at hSw
    go_simp
    all_goals with_reducible rfl
  try simp only [List.getElem_toArray, List.getElem_cons_succ, List.getElem_cons_zero, Act.put, List.setIfInBounds_toArray, List.set_cons_zero, List.set_cons_succ]
  refine wpAnyH_take (i := 5) (v := ?_) rfl (by kernel_rfl) (by kernel_rfl) (by kernel_rfl) (fun _ _ _ h => h) (Or.inl ⟨by rfl, ?_⟩) hHeld ?_
  rotate_left
  · intro w' hSw
    try dsimp only at hSw
    go_simp
    all_goals with_reducible rfl
  try simp only [List.getElem_toArray, List.getElem_cons_succ, List.getElem_cons_zero, Act.put, List.setIfInBounds_toArray, List.set_cons_zero, List.set_cons_succ]
  refine wpAnyH_take (i := 6) (v := undef) rfl (by kernel_rfl) (by kernel_rfl) (by kernel_rfl) (fun _ _ _ h => h) (Or.inr ⟨by rfl, rfl⟩) hHeld ?_
  try simp only [List.getElem_toArray, List.getElem_cons_succ, List.getElem_cons_zero, Act.put, List.setIfInBounds_toArray, List.set_cons_zero, List.set_cons_succ]
  refine wpAnyH_take (i := 7) (v := undef) rfl (by kernel_rfl) (by kernel_rfl) (by kernel_rfl) (fun _ _ _ h => h) (Or.inr ⟨by rfl, rfl⟩) hHeld ?_
  try simp only [List.getElem_toArray, List.getElem_cons_succ, List.getElem_cons_zero, Act.put, List.setIfInBounds_toArray, List.set_cons_zero, List.set_cons_succ]
  refine wpAnyH_take (i := 8) (v := undef) rfl (by kernel_rfl) (by kernel_rfl) (by kernel_rfl) (fun _ _ _ h => h) (Or.inr ⟨by rfl, rfl⟩) hHeld ?_
  try simp only [List.getElem_toArray, List.getElem_cons_succ, List.getElem_cons_zero, Act.put, List.setIfInBounds_toArray, List.set_cons_zero, List.set_cons_succ]
  refine wpAnyH_take (i := 9) (v := undef) rfl (by kernel_rfl) (by kernel_rfl) (by kernel_rfl) (fun _ _ _ h => h) (Or.inr ⟨by rfl, rfl⟩) hHeld ?_
  try simp only [List.getElem_toArray, List.getElem_cons_succ, List.getElem_cons_zero, Act.put, List.setIfInBounds_toArray, List.set_cons_zero, List.set_cons_succ]
  refine wpAnyH_take (i := 10) (v := undef) rfl (by kernel_rfl) (by kernel_rfl) (by kernel_rfl) (fun _ _ _ h => h) (Or.inr ⟨by rfl, rfl⟩) hHeld ?_
  try simp only [List.getElem_toArray, List.getElem_cons_succ, List.getElem_cons_zero, Act.put, List.setIfInBounds_toArray, List.set_cons_zero, List.set_cons_succ]
  refine wpAnyH_take (i := 11) (v := undef) rfl (by kernel_rfl) (by kernel_rfl) (by kernel_rfl) (fun _ _ _ h => h) (Or.inr ⟨by rfl, rfl⟩) hHeld ?_
  try simp only [List.getElem_toArray, List.getElem_cons_succ, List.getElem_cons_zero, Act.put, List.setIfInBounds_toArray, List.set_cons_zero, List.set_cons_succ]
  refine wpAnyH_take (i := 12) (v := undef) rfl (by kernel_rfl) (by kernel_rfl) (by kernel_rfl) (fun _ _ _ h => h) (Or.inr ⟨by rfl, rfl⟩) hHeld ?_
  try simp only [List.getElem_toArray, List.getElem_cons_succ, List.getElem_cons_zero, Act.put, List.setIfInBounds_toArray, List.set_cons_zero, List.set_cons_succ]
  refine wpAnyH_take (i := 13) (v := ?_) rfl (by kernel_rfl) (by kernel_rfl) (by kernel_rfl) (fun _ _ _ h => h) (Or.inl ⟨by rfl, ?_⟩) hHeld ?_
  rotate_left
  · intro w' hSw
    try dsimp only at hSw
    go_simp
    all_goals with_reducible rfl
  try simp only [List.getElem_toArray, List.getElem_cons_succ, List.getElem_cons_zero, Act.put, List.setIfInBounds_toArray, List.set_cons_zero, List.set_cons_succ]
  refine wpAnyH_done (by kernel_rfl) ?_ _
  have H3 := hide (H.out.next hbA)
  have F3 := hide (Fr.of_below (S := fun k => k = P) hbA)
  have q3 := q0
  have e3 := e1
  have l3 : w.heap.size + 1 < ((w.alloc (.cells #[.int .i64 (-1)] 3)).alloc (.cells #[.func (.func 29) #[] #[.pointer (some ⟨w.heap.size, 0, none⟩)]] 69)).drew.heap.size := by simp
  clear c0 c1 c2 c6 d0 d2 hHeld
  have m3 := H3.out.c6
  go_wp2_with fail
  refine (del_empty _ _ H3.out).mono ?_
  rintro r w4 ⟨rfl, hb4⟩
  have H4 := hide (H3.out.next hb4)
  have F4 := hide (F3.out.trans (Fr.of_below (S := fun k => k = P) hb4) (fun _ _ e => e))
  have d6 := H4.out.c6
  have f6 := H4.out.f 6 (by omega)
  clear hb4 q3 e3
  go_wp2
  go_ret2
  exact ⟨⟨_, rfl⟩, _, H4.out.setRow H4.out.own H4.out.ne (Nat.zero_le _), (F4.out.mono (fun _ _ e => .inl e)).setCell (p := ⟨P, 6, none⟩) (fun _ => .inl rfl) _, rfl⟩
set_option maxHeartbeats 4000000 in
theorem drop_all_walk (x : Int × Int) (w : World) (h : Ck w P true st gr at_ en gs v (x :: ks)) : Calls Try.prog 12 #[.pointer (some ⟨P, 0, none⟩), .int .i64 (-1)] w (DrR P true true gr at_ en gs v w) := by
  obtain ⟨g0, sc, rfl, k1, k3, k4⟩ : ∃ g0 c, v = .slice (some ⟨g0, 0, none⟩) (x :: ks).length c ∧ (x :: ks).length ≤ c ∧ g0 < w.heap.size ∧ g0 ≠ P := by
    rcases h.form with ⟨rfl, e⟩ | ⟨g0, cp, rfl, k1, k2, k3, k4, -⟩
    · cases e
    · exact ⟨_, _, rfl, k1, k3, k4⟩
  have hle := h.le
  have h8 := h.e8
  have H := hide h
  have c0 := h.c0
  have c1 := h.c1
  have c2 := h.c2
  have c6 := h.c6
  have hP := h.hP
  clear h
  go_enter Try.func12, Try.ntmps12
  go_wp2_with fail
  have hbA : Below w.heap.size w ((w.alloc (.cells #[.int .i64 (-1)] 3)).alloc (.cells #[.func (.func 29) #[] #[.pointer (some ⟨w.heap.size, 0, none⟩)]] 69)).drew := below_drew0 (((Below.refl _ _).alloc (Nat.le_refl _) _).alloc (by simp) _)
  have d0 := cell_next hbA hP c0
  have d2 := cell_next hbA hP c2
  have e1 : ((w.alloc (.cells #[.int .i64 (-1)] 3)).alloc (.cells #[.func (.func 29) #[] #[.pointer (some ⟨w.heap.size, 0, none⟩)]] 69)).drew.cell? ⟨w.heap.size, 0, none⟩ = some (.int .i64 (-1)) := (World.cell?_alloc_lt (w.alloc (.cells #[.int .i64 (-1)] 3)) _ ⟨w.heap.size, 0, none⟩ (by simp)).trans (World.cell?_alloc_new w _ 3 0)
  have q0 : ((w.alloc (.cells #[.int .i64 (-1)] 3)).alloc (.cells #[.func (.func 29) #[] #[.pointer (some ⟨w.heap.size, 0, none⟩)]] 69)).drew.cell? ⟨w.heap.size + 1, 0, none⟩ = some (.func (.func 29) #[] #[.pointer (some ⟨w.heap.size, 0, none⟩)]) := by simp
  refine wp_region_held_drew (S := fun W => (W.cell? ⟨P, 0, none⟩ = some (.bool true) ∧ W.cell? ⟨P, 2, none⟩ = some (.int .i64 gr)) ∧ W.cell? ⟨w.heap.size + 1, 0, none⟩ = some (.func (.func 29) #[] #[.pointer (some ⟨w.heap.size, 0, none⟩)])) (by kernel_rfl) ?_ (fun hHeld => ?_)
  · exact ⟨⟨d0, d2⟩, q0⟩
  refine wpAnyH_take (i := 0) (v := ?_) rfl (by kernel_rfl) (by kernel_rfl) (by kernel_rfl) (fun _ _ _ h => h) (Or.inl ⟨by rfl, ?_⟩) hHeld ?_
  rotate_left
  · intro w' hSw
    try dsimp only at hSw
    go_simp
    all_goals with_reducible rfl
  try simp only [List.getElem_toArray, List.getElem_cons_zero, Act.put, List.setIfInBounds_toArray, List.set_cons_zero, List.set_cons_succ]
  refine wpAnyH_take (i := 1) (v := ?_) rfl (by kernel_rfl) (by kernel_rfl) (by kernel_rfl) (fun _ _ _ h => h) (Or.inl ⟨by rfl, ?_⟩) hHeld ?_
  rotate_left
  · intro w' hSw
    try dsimp only at hSw
    go_simp
    all_goals with_reducible rfl
  try simp only [List.getElem_toArray, List.getElem_cons_succ, List.getElem_cons_zero, Act.put, List.setIfInBounds_toArray, List.set_cons_zero, List.set_cons_succ]
  refine wpAnyH_take (i := 2) (v := ?_) rfl (by kernel_rfl) (by kernel_rfl) (by kernel_rfl) (fun _ _ _ h => h) (Or.inl ⟨by rfl, ?_⟩) hHeld ?_
  rotate_left
  · intro w' hSw
    try dsimp only at hSw
    go_simp
    all_goals with_reducible rfl
  try simp only [List.getElem_toArray, List.getElem_cons_succ, List.getElem_cons_zero, Act.put, List.setIfInBounds_toArray, List.set_cons_zero, List.set_cons_succ]
  refine wpAnyH_take (i := 3) (v := ?_) rfl (by kernel_rfl) (by kernel_rfl) (by kernel_rfl) (fun _ _ _ h => h) (Or.inl ⟨by rfl, ?_⟩) hHeld ?_
  rotate_left
  · intro w' hSw
    try dsimp only at hSw
    go_simp
    all_goals with_reducible rfl
  try simp only [List.getElem_toArray, List.getElem_cons_succ, List.getElem_cons_zero, Act.put, List.setIfInBounds_toArray, List.set_cons_zero, List.set_cons_succ]
  refine wpAnyH_take (i := 4) (v := ?_) rfl (by kernel_rfl) (by kernel_rfl) (by kernel_rfl) (fun _ _ _ h => h) (Or.inl ⟨by rfl, ?_⟩) hHeld ?_
  rotate_left
  · intro w' hSw
    try dsimp only at hSw
    go_simp
    all_goals with_reducible rfl
  try simp only [List.getElem_toArray, List.getElem_cons_succ, List.getElem_cons_zero, Act.put, List.setIfInBounds_toArray, List.set_cons_zero, List.set_cons_succ]
  refine wpAnyH_take (i := 5) (v := ?_) rfl (by kernel_rfl) (by kernel_rfl) (by kernel_rfl) (fun _ _ _ h => h) (Or.inl ⟨by rfl, ?_⟩) hHeld ?_
  rotate_left
  · intro w' hSw
    try dsimp only at hSw
    go_simp
    all_goals with_reducible rfl
  try simp only [List.getElem_toArray, List.getElem_cons_succ, List.getElem_cons_zero, Act.put, List.setIfInBounds_toArray, List.set_cons_zero, List.set_cons_succ]
  refine wpAnyH_take (i := 6) (v := ?_) rfl (by kernel_rfl) (by kernel_rfl) (by kernel_rfl) (fun _ _ _ h => h) (Or.inl ⟨by rfl, ?_⟩) hHeld ?_
  rotate_left
  · intro w' hSw
    try dsimp only at hSw
    go_simp
    all_goals with_reducible rfl
  try simp only [List.getElem_toArray, List.getElem_cons_succ, List.getElem_cons_zero, Act.put, List.setIfInBounds_toArray, List.set_cons_zero, List.set_cons_succ]
  refine wpAnyH_take (i := 7) (v := ?_) rfl (by kernel_rfl) (by kernel_rfl) (by kernel_rfl) (fun _ _ _ h => h) (Or.inl ⟨by rfl, ?_⟩) hHeld ?_
  rotate_left
  · intro w' hSw
    try dsimp only at hSw
    go_simp
    all_goals with_reducible rfl
  try simp only [List.getElem_toArray, List.getElem_cons_succ, List.getElem_cons_zero, Act.put, List.setIfInBounds_toArray, List.set_cons_zero, List.set_cons_succ]
  refine wpAnyH_take (i := 8) (v := ?_) rfl (by kernel_rfl) (by kernel_rfl) (by kernel_rfl) (fun _ _ _ h => h) (Or.inl ⟨by rfl, ?_⟩) hHeld ?_
  rotate_left
  · intro w' hSw
    try dsimp only at hSw
    go_simp
    all_goals with_reducible rfl
  try simp only [List.getElem_toArray, List.getElem_cons_succ, List.getElem_cons_zero, Act.put, List.setIfInBounds_toArray, List.set_cons_zero, List.set_cons_succ]
  refine wpAnyH_take (i := 9) (v := ?_) rfl (by kernel_rfl) (by kernel_rfl) (by kernel_rfl) (fun _ _ _ h => h) (Or.inl ⟨by rfl, ?_⟩) hHeld ?_
  rotate_left
  · intro w' hSw
    try dsimp only at hSw
    go_simp
    all_goals with_reducible rfl
  try simp only [List.getElem_toArray, List.getElem_cons_succ, List.getElem_cons_zero, Act.put, List.setIfInBounds_toArray, List.set_cons_zero, List.set_cons_succ]
  refine wpAnyH_take (i := 10) (v := ?_) rfl (by kernel_rfl) (by kernel_rfl) (by kernel_rfl) (fun _ _ _ h => h) (Or.inl ⟨by rfl, ?_⟩) hHeld ?_
  rotate_left
  · intro w' hSw
    try dsimp only at hSw
    go_simp
    all_goals with_reducible rfl
  try simp only [List.getElem_toArray, List.getElem_cons_succ, List.getElem_cons_zero, Act.put, List.setIfInBounds_toArray, List.set_cons_zero, List.set_cons_succ]
  refine wpAnyH_take (i := 11) (v := ?_) rfl (by kernel_rfl) (by kernel_rfl) (by kernel_rfl) (fun _ _ _ h => h) (Or.inl ⟨by rfl, ?_⟩) hHeld ?_
  rotate_left
  · intro w' hSw
    try dsimp only at hSw
    go_simp
    all_goals with_reducible rfl
  try simp only [List.getElem_toArray, List.getElem_cons_succ, List.getElem_cons_zero, Act.put, List.setIfInBounds_toArray, List.set_cons_zero, List.set_cons_succ]
  refine wpAnyH_ready (rs := [12]) (by kernel_rfl) (by simp) ?_
  refine AllReadyH.cons rfl (fun K hK => ?_) AllReadyH.nil
  go_simp
  refine (meant_all gr w.heap.size _ e1).mono ?_
  rintro r w2 ⟨rfl, hb2⟩
  refine hK.out _ _ ?_ (fun hHeld => ?_)
  · (try dsimp only)
    exact ⟨⟨cell_next hb2 (by simp; omega) d0, cell_next hb2 (by simp; omega) d2⟩, cell_next hb2 (by simp) q0⟩
  clear hK K
  refine wpAnyH_take (i := 13) (v := ?_) rfl (by kernel_rfl) (by kernel_rfl) (by kernel_rfl) (fun _ _ _ h => h) (Or.inl ⟨by rfl, ?_⟩) hHeld ?_
  rotate_left
  · intro w' hSw
    try dsimp only at hSw
    go_simp
    all_goals with_reducible rfl
  try simp only [List.getElem_toArray, List.getElem_cons_succ, List.getElem_cons_zero, Act.put, List.setIfInBounds_toArray, List.set_cons_zero, List.set_cons_succ]
  refine wpAnyH_done (by kernel_rfl) ?_ _
  have H2 := hide ((H.out.next hbA).next hb2)
  have B2 := hide (below_step hbA hbA.size hb2)
  have q2 := hide (cell_next hb2 (by simp) q0)
  have e2 := hide (cell_next hb2 (by simp; omega) e1)
  have l2 : w.heap.size + 1 < w2.heap.size := Nat.lt_of_lt_of_le (by simp) hb2.size
  have m1 := H2.out.c1
  have m2 := H2.out.f 1 (by omega)
  have m3 := H2.out.c6
  clear c0 c1 c2 c6 d0 d2 e1 q0 hbA hb2 hHeld
  go_wp2_with fail
  have H3 := hide (H2.out.setStale true)
  have F3 := hide ((Fr.of_below B2.out).trans ((Fr.refl (fun k => k = P) w2).setCell (p := ⟨P, 1, none⟩) (fun _ => rfl) (.bool true)) (fun _ _ e => e))
  have q3 : (w2.setCell ⟨P, 1, none⟩ (.bool true)).cell? ⟨w.heap.size + 1, 0, none⟩ = some (.func (.func 29) #[] #[.pointer (some ⟨w.heap.size, 0, none⟩)]) := (setCell_cell_other (by intro e; injection e; omega)).trans q2.out
  have e3 : (w2.setCell ⟨P, 1, none⟩ (.bool true)).cell? ⟨w.heap.size, 0, none⟩ = some (.int .i64 (-1)) := (setCell_cell_other (by intro e; injection e; omega)).trans e2.out
  have l3 : w.heap.size + 1 < (w2.setCell ⟨P, 1, none⟩ (.bool true)).heap.size := by simpa [World.setCell] using l2
  refine (del_all x w.heap.size (w.heap.size + 1) g0 sc _ H3.out k1 (by omega) l3 (by omega) e3 q3).mono ?_
  rintro r w4 ⟨rfl, hown, f4⟩
  have H4 := hide (H3.out.rowed f4 (Ne.symm k4) (v' := .slice (some ⟨g0, 0, none⟩) 0 sc) (ks' := []) hown (by simp [Value.ownBlock]; exact k4) (Nat.zero_le _))
  have F4 := hide ((((F3.out.mono (T := Ck.S P (.slice (some ⟨g0, 0, none⟩) (x :: ks).length sc)) (fun _ _ e => .inl e)).trans f4 (fun _ _ e => .inr (by rw [e]; rfl))).setCell (p := ⟨P, 6, none⟩) (fun _ => .inl rfl) (.slice (some ⟨g0, 0, none⟩) 0 sc)))
  have d6 := (f4.cell (p := P) (o := 6) (by omega) (Ne.symm k4)).trans H3.out.c6
  have f6 := (f4.frozen (p := P) (o := 6) (by omega) (Ne.symm k4)).trans (H3.out.f 6 (by omega))
  have l4 : P < w4.heap.size := Nat.lt_of_lt_of_le (by omega) f4.size
  have x6 := H4.out.c6
  clear hown f4 q3 e3
  go_wp2
  go_ret2
  exact ⟨⟨_, rfl⟩, _, H4.out, F4.out, rfl⟩
set_option maxHeartbeats 4000000 in
theorem drop_all_walk_nil (w : World) (h : Ck w P true st gr at_ en gs v []) : Calls Try.prog 12 #[.pointer (some ⟨P, 0, none⟩), .int .i64 (-1)] w (DrR P true true gr at_ en gs v w) := by
  obtain ⟨sa, sc, rfl⟩ : ∃ a c, v = .slice a 0 c := by
    rcases h.form with ⟨rfl, -⟩ | ⟨g0, cp, rfl, -⟩
    · exact ⟨none, 0, rfl⟩
    · exact ⟨_, _, rfl⟩
  have hle := h.le
  have h8 := h.e8
  have H := hide h
  have c0 := h.c0
  have c1 := h.c1
  have c2 := h.c2
  have c6 := h.c6
  have hP := h.hP
  clear h
  go_enter Try.func12, Try.ntmps12
  go_wp2_with fail
  have hbA : Below w.heap.size w ((w.alloc (.cells #[.int .i64 (-1)] 3)).alloc (.cells #[.func (.func 29) #[] #[.pointer (some ⟨w.heap.size, 0, none⟩)]] 69)).drew := below_drew0 (((Below.refl _ _).alloc (Nat.le_refl _) _).alloc (by simp) _)
  have d0 := cell_next hbA hP c0
  have d2 := cell_next hbA hP c2
  have e1 : ((w.alloc (.cells #[.int .i64 (-1)] 3)).alloc (.cells #[.func (.func 29) #[] #[.pointer (some ⟨w.heap.size, 0, none⟩)]] 69)).drew.cell? ⟨w.heap.size, 0, none⟩ = some (.int .i64 (-1)) := (World.cell?_alloc_lt (w.alloc (.cells #[.int .i64 (-1)] 3)) _ ⟨w.heap.size, 0, none⟩ (by simp)).trans (World.cell?_alloc_new w _ 3 0)
  have q0 : ((w.alloc (.cells #[.int .i64 (-1)] 3)).alloc (.cells #[.func (.func 29) #[] #[.pointer (some ⟨w.heap.size, 0, none⟩)]] 69)).drew.cell? ⟨w.heap.size + 1, 0, none⟩ = some (.func (.func 29) #[] #[.pointer (some ⟨w.heap.size, 0, none⟩)]) := by simp
  refine wp_region_held_drew (S := fun W => (W.cell? ⟨P, 0, none⟩ = some (.bool true) ∧ W.cell? ⟨P, 2, none⟩ = some (.int .i64 gr)) ∧ W.cell? ⟨w.heap.size + 1, 0, none⟩ = some (.func (.func 29) #[] #[.pointer (some ⟨w.heap.size, 0, none⟩)])) (by kernel_rfl) ?_ (fun hHeld => ?_)
  · exact ⟨⟨d0, d2⟩, q0⟩
  refine wpAnyH_take (i := 0) (v := ?_) rfl (by kernel_rfl) (by kernel_rfl) (by kernel_rfl) (fun _ _ _ h => h) (Or.inl ⟨by rfl, ?_⟩) hHeld ?_
  rotate_left
  · intro w' hSw
    try dsimp only at hSw
    go_simp
    all_goals with_reducible rfl
  try simp only [List.getElem_toArray, List.getElem_cons_zero, Act.put, List.setIfInBounds_toArray, List.set_cons_zero, List.set_cons_succ]
  refine wpAnyH_take (i := 1) (v := ?_) rfl (by kernel_rfl) (by kernel_rfl) (by kernel_rfl) (fun _ _ _ h => h) (Or.inl ⟨by rfl, ?_⟩) hHeld ?_
  rotate_left
  · intro w' hSw
    try dsimp only at hSw
    go_simp
    all_goals with_reducible rfl
  try simp only [List.getElem_toArray, List.getElem_cons_succ, List.getElem_cons_zero, Act.put, List.setIfInBounds_toArray, List.set_cons_zero, List.set_cons_succ]
  refine wpAnyH_take (i := 2) (v := ?_) rfl (by kernel_rfl) (by kernel_rfl) (by kernel_rfl) (fun _ _ _ h => h) (Or.inl ⟨by rfl, ?_⟩) hHeld ?_
  rotate_left
  · intro w' hSw
    try dsimp only at hSw
    go_simp
    all_goals with_reducible rfl
  try simp only [List.getElem_toArray, List.getElem_cons_succ, List.getElem_cons_zero, Act.put, List.setIfInBounds_toArray, List.set_cons_zero, List.set_cons_succ]
  refine wpAnyH_take (i := 3) (v := ?_) rfl (by kernel_rfl) (by kernel_rfl) (by kernel_rfl) (fun _ _ _ h => h) (Or.inl ⟨by rfl, ?_⟩) hHeld ?_
  rotate_left
  · intro w' hSw
    try dsimp only at hSw
    go_simp
    all_goals with_reducible rfl
  try simp only [List.getElem_toArray, List.getElem_cons_succ, List.getElem_cons_zero, Act.put, List.setIfInBounds_toArray, List.set_cons_zero, List.set_cons_succ]
  refine wpAnyH_take (i := 4) (v := ?_) rfl (by kernel_rfl) (by kernel_rfl) (by kernel_rfl) (fun _ _ _ h => h) (Or.inl ⟨by rfl, ?_⟩) hHeld ?_
  rotate_left
  · intro w' hSw
    try dsimp only at hSw
    go_simp
    all_goals with_reducible rfl
  try simp only [List.getElem_toArray, List.getElem_cons_succ, List.getElem_cons_zero, Act.put, List.setIfInBounds_toArray, List.set_cons_zero, List.set_cons_succ]
  refine wpAnyH_take (i := 5) (v := ?_) rfl (by kernel_rfl) (by kernel_rfl) (by kernel_rfl) (fun _ _ _ h => h) (Or.inl ⟨by rfl, ?_⟩) hHeld ?_
  rotate_left
  · intro w' hSw
    try dsimp only at hSw
    go_simp
    all_goals with_reducible rfl
  try simp only [List.getElem_toArray, List.getElem_cons_succ, List.getElem_cons_zero, Act.put, List.setIfInBounds_toArray, List.set_cons_zero, List.set_cons_succ]
  refine wpAnyH_take (i := 6) (v := ?_) rfl (by kernel_rfl) (by kernel_rfl) (by kernel_rfl) (fun _ _ _ h => h) (Or.inl ⟨by rfl, ?_⟩) hHeld ?_
  rotate_left
  · intro w' hSw
    try dsimp only at hSw
    go_simp
    all_goals with_reducible rfl
  try simp only [List.getElem_toArray, List.getElem_cons_succ, List.getElem_cons_zero, Act.put, List.setIfInBounds_toArray, List.set_cons_zero, List.set_cons_succ]
  refine wpAnyH_take (i := 7) (v := ?_) rfl (by kernel_rfl) (by kernel_rfl) (by kernel_rfl) (fun _ _ _ h => h) (Or.inl ⟨by rfl, ?_⟩) hHeld ?_
  rotate_left
  · intro w' hSw
    try dsimp only at hSw
    go_simp
    all_goals with_reducible rfl
  try simp only [List.getElem_toArray, List.getElem_cons_succ, List.getElem_cons_zero, Act.put, List.setIfInBounds_toArray, List.set_cons_zero, List.set_cons_succ]
  refine wpAnyH_take (i := 8) (v := ?_) rfl (by kernel_rfl) (by kernel_rfl) (by kernel_rfl) (fun _ _ _ h => h) (Or.inl ⟨by rfl, ?_⟩) hHeld ?_
  rotate_left
  · intro w' hSw
    try dsimp only at hSw
    go_simp
    all_goals with_reducible rfl
  try simp only [List.getElem_toArray, List.getElem_cons_succ, List.getElem_cons_zero, Act.put, List.setIfInBounds_toArray, List.set_cons_zero, List.set_cons_succ]
  refine wpAnyH_take (i := 9) (v := ?_) rfl (by kernel_rfl) (by kernel_rfl) (by kernel_rfl) (fun _ _ _ h => h) (Or.inl ⟨by rfl, ?_⟩) hHeld ?_
  rotate_left
  · intro w' hSw
    try dsimp only at hSw
    go_simp
    all_goals with_reducible rfl
  try simp only [List.getElem_toArray, List.getElem_cons_succ, List.getElem_cons_zero, Act.put, List.setIfInBounds_toArray, List.set_cons_zero, List.set_cons_succ]
  refine wpAnyH_take (i := 10) (v := ?_) rfl (by kernel_rfl) (by kernel_rfl) (by kernel_rfl) (fun _ _ _ h => h) (Or.inl ⟨by rfl, ?_⟩) hHeld ?_
  rotate_left
  · intro w' hSw
    try dsimp only at hSw
    go_simp
    all_goals with_reducible rfl
  try simp only [List.getElem_toArray, List.getElem_cons_succ, List.getElem_cons_zero, Act.put, List.setIfInBounds_toArray, List.set_cons_zero, List.set_cons_succ]
  refine wpAnyH_take (i := 11) (v := ?_) rfl (by kernel_rfl) (by kernel_rfl) (by kernel_rfl) (fun _ _ _ h => h) (Or.inl ⟨by rfl, ?_⟩) hHeld ?_
  rotate_left
  · intro w' hSw
    try dsimp only at hSw
    go_simp
    all_goals with_reducible rfl
  try simp only [List.getElem_toArray, List.getElem_cons_succ, List.getElem_cons_zero, Act.put, List.setIfInBounds_toArray, List.set_cons_zero, List.set_cons_succ]
  refine wpAnyH_ready (rs := [12]) (by kernel_rfl) (by simp) ?_
  refine AllReadyH.cons rfl (fun K hK => ?_) AllReadyH.nil
  go_simp
  refine (meant_all gr w.heap.size _ e1).mono ?_
  rintro r w2 ⟨rfl, hb2⟩
  refine hK.out _ _ ?_ (fun hHeld => ?_)
  · (try dsimp only)
    exact ⟨⟨cell_next hb2 (by simp; omega) d0, cell_next hb2 (by simp; omega) d2⟩, cell_next hb2 (by simp) q0⟩
  clear hK K
  refine wpAnyH_take (i := 13) (v := ?_) rfl (by kernel_rfl) (by kernel_rfl) (by kernel_rfl) (fun _ _ _ h => h) (Or.inl ⟨by rfl, ?_⟩) hHeld ?_
  rotate_left
  · intro w' hSw
    try dsimp only at hSw
    go_simp
    all_goals with_reducible rfl
  try simp only [List.getElem_toArray, List.getElem_cons_succ, List.getElem_cons_zero, Act.put, List.setIfInBounds_toArray, List.set_cons_zero, List.set_cons_succ]
  refine wpAnyH_done (by kernel_rfl) ?_ _
  have H2 := hide ((H.out.next hbA).next hb2)
  have B2 := hide (below_step hbA hbA.size hb2)
  have q2 := hide (cell_next hb2 (by simp) q0)
  have e2 := hide (cell_next hb2 (by simp; omega) e1)
  have l2 : w.heap.size + 1 < w2.heap.size := Nat.lt_of_lt_of_le (by simp) hb2.size
  have m1 := H2.out.c1
  have m2 := H2.out.f 1 (by omega)
  have m3 := H2.out.c6
  clear c0 c1 c2 c6 d0 d2 e1 q0 hbA hb2 hHeld
  go_wp2_with fail
  have H3 := hide (H2.out.setStale true)
  have F3 := hide ((Fr.of_below B2.out).trans ((Fr.refl (fun k => k = P) w2).setCell (p := ⟨P, 1, none⟩) (fun _ => rfl) (.bool true)) (fun _ _ e => e))
  have q3 : (w2.setCell ⟨P, 1, none⟩ (.bool true)).cell? ⟨w.heap.size + 1, 0, none⟩ = some (.func (.func 29) #[] #[.pointer (some ⟨w.heap.size, 0, none⟩)]) := (setCell_cell_other (by intro e; injection e; omega)).trans q2.out
  have e3 : (w2.setCell ⟨P, 1, none⟩ (.bool true)).cell? ⟨w.heap.size, 0, none⟩ = some (.int .i64 (-1)) := (setCell_cell_other (by intro e; injection e; omega)).trans e2.out
  have l3 : w.heap.size + 1 < (w2.setCell ⟨P, 1, none⟩ (.bool true)).heap.size := by simpa [World.setCell] using l2
  refine (del_empty _ _ H3.out).mono ?_
  rintro r w4 ⟨rfl, hb4⟩
  have H4 := hide (H3.out.next hb4)
  have F4 := hide (F3.out.trans (Fr.of_below (S := fun k => k = P) hb4) (fun _ _ e => e))
  have d6 := H4.out.c6
  have f6 := H4.out.f 6 (by omega)
  clear hb4 q3 e3
  go_wp2
  go_ret2
  exact ⟨⟨_, rfl⟩, _, H4.out.setRow H4.out.own H4.out.ne (Nat.zero_le _), (F4.out.mono (fun _ _ e => .inl e)).setCell (p := ⟨P, 6, none⟩) (fun _ => .inl rfl) _, rfl⟩
theorem drop_every (w : World) (h : Ck w P ws st gr at_ en gs v ks) : Calls Try.prog 12 #[.pointer (some ⟨P, 0, none⟩), .int .i64 (-1)] w (DrR P ws (ws || st) gr at_ en gs v w) := by
  cases ws <;> cases ks
  · exact drop_all_still_nil w h
  · exact drop_all_still _ w h
  · exact drop_all_walk_nil w h
  · exact drop_all_walk _ w h
end
end Go.Proofs.Ytfikiophfphmbaa
