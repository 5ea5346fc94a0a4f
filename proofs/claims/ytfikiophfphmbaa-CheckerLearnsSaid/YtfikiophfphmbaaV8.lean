/- The reference of layer 9 (checker): Walked, where it learns and forgets. -/
import Derived.Test.YtfikiophfphmbaaV7
import Derived.WalkKit
import Derived.WalkSpells
import Derived.ProofKit
import Derived.Outline
import Derived.Handy
import Derived.RowKit3
import Derived.BigQuiet
import Derived.Deep.QuietTactic
import Derived.Deep.RegionHeld3
import Derived.Deep.Draws
import Derived.Deep.RegionLaw
import Derived.RegionTactic
import Derived.BigRegion
import Derived.IntWalk
import Derived.LoopTactic
import Derived.OwnWalk
import Derived.Laws.AppendOwn
import Derived.Laws.OwnMore
import Derived.Laws.MakeOwn
import Derived.Laws.Pointers
import Derived.Maps.AppendAt
import Derived.Deep.AppendLies
import Derived.Below
namespace Go.Proofs.Ytfikiophfphmbaa
open Go.RowKit
set_option linter.unusedVariables false
set_option maxRecDepth 100000

theorem Sl.tail {w : World} {b off m cap off' : Nat} (h : Sl w (.slice (some ⟨b, off, none⟩) (m + 1) cap) (m + 1)) (ho : (if cap = 1 then some (⟨b, off, none⟩ : Addr) else some ⟨b, off + 1, none⟩) = some ⟨b, off', none⟩) : Sl w (.slice (some ⟨b, off', none⟩) m (cap - 1)) m := by
  rcases h with ⟨e, e2⟩ | ⟨b', f', c', e, h1, h2, h3, h4, h5, h6⟩
  · omega
  · simp at e
    obtain ⟨⟨rfl, rfl⟩, rfl⟩ := e
    by_cases hc : cap = 1
    · subst hc
      simp at ho
      subst ho
      refine .inr ⟨b, off, 0, rfl, by omega, by unfold maxLen; omega, h3, fun j hj => by omega, fun j hj => by omega, h6⟩
    · rw [if_neg hc] at ho
      simp at ho
      subst ho
      refine .inr ⟨b, off + 1, cap - 1, rfl, by omega, by omega, h3, fun j hj => ?_, fun j hj => ?_, h6⟩
      · have := h4 (1 + j) (by omega); rwa [← Nat.add_assoc] at this
      · have := h5 (1 + j) (by omega); rwa [← Nat.add_assoc] at this
theorem Rk.cut {w : World} {R gs m gb gf gc ob of_ oc gf' of' en : Nat} {wk at_ : Int} {st : Bool} (h : Rk w R en gs (.slice (some ⟨gb, gf, none⟩) (m + 1) gc) (.slice (some ⟨ob, of_, none⟩) (m + 1) oc) (m + 1) wk at_ st) (hg : (if gc = 1 then some (⟨gb, gf, none⟩ : Addr) else some ⟨gb, gf + 1, none⟩) = some ⟨gb, gf', none⟩) (ho : (if oc = 1 then some (⟨ob, of_, none⟩ : Addr) else some ⟨ob, of_ + 1, none⟩) = some ⟨ob, of', none⟩) :
    Rk ((w.setCell ⟨R, 2, none⟩ (.slice (some ⟨gb, gf', none⟩) m (gc - 1))).setCell ⟨R, 3, none⟩ (.slice (some ⟨ob, of', none⟩) m (oc - 1))) R en gs (.slice (some ⟨gb, gf', none⟩) m (gc - 1)) (.slice (some ⟨ob, of', none⟩) m (oc - 1)) m wk at_ st :=
  h.setGO (h.g.tail hg) (h.o.tail ho) h.nG h.nO h.dis (by have := h.le; omega)
section
variable {R en gs m : Nat} {G O : Value} {wk : Nat} {at_ : Int} {st : Bool}
set_option maxHeartbeats 8000000 in
theorem rw_full (o word : Int) (hN : ∀ W, Calls Try.prog 50 #[.int .i64 gs, .int .i64 wk, .int .i64 at_, .int .i64 word] W (StepR 2 0 o false W)) (w : World) (h : Rk w R (m + 1) gs G O (m + 1) wk at_ false) : Calls Try.prog 40 #[.pointer (some ⟨R, 0, none⟩), .int .i64 at_, .int .i64 word] w (WalR R (m + 1) gs G O w) := by
  have c0 := h.c0
  have c1 := h.c1
  have c4 := h.c4
  have c5 := h.c5
  have c6 := h.c6
  have hR := h.hR
  have hw := h.wb
  have hw0 : (0 : Int) ≤ wk := by omega
  have H := hide h
  have HN := hide hN
  clear h hN
  have hge : ∃ b f c, G = .slice (some ⟨b, f, none⟩) (m + 1) c := by
    rcases H.out.g with ⟨e, e2⟩ | ⟨b, off, cap, e, -⟩
    · omega
    · exact ⟨_, _, _, e⟩
  obtain ⟨gb, gf, gc, rfl⟩ := hge
  have hoe : ∃ b f c, O = .slice (some ⟨b, f, none⟩) (m + 1) c := by
    rcases H.out.o with ⟨e, e2⟩ | ⟨b, off, cap, e, -⟩
    · omega
    · exact ⟨_, _, _, e⟩
  obtain ⟨ob, of_, oc, rfl⟩ := hoe
  have he8 := H.out.e8
  have hgc : m + 1 ≤ gc := by
    rcases H.out.g with ⟨e, e2⟩ | ⟨b, off, cap, e, h1, -⟩
    · omega
    · simp at e; obtain ⟨-, rfl⟩ := e; exact h1
  have hoc : m + 1 ≤ oc := by
    rcases H.out.o with ⟨e, e2⟩ | ⟨b, off, cap, e, h1, -⟩
    · omega
    · simp at e; obtain ⟨-, rfl⟩ := e; exact h1
  have hp1 : (1 : Int) ≤ (m : Int) + 1 := by omega
  obtain ⟨gf', hgf⟩ : ∃ f, (if gc = 1 then some (⟨gb, gf, none⟩ : Addr) else some ⟨gb, gf + 1, none⟩) = some ⟨gb, f, none⟩ := by
    by_cases hc : gc = 1
    · exact ⟨gf, by simp [hc]⟩
    · exact ⟨gf + 1, by simp [hc]⟩
  obtain ⟨of', hof⟩ : ∃ f, (if oc = 1 then some (⟨ob, of_, none⟩ : Addr) else some ⟨ob, of_ + 1, none⟩) = some ⟨ob, f, none⟩ := by
    by_cases hc : oc = 1
    · exact ⟨of_, by simp [hc]⟩
    · exact ⟨of_ + 1, by simp [hc]⟩
  go_enter Try.func40, Try.ntmps40
  go_wp2_with fail
  refine wp_region_held_drew (S := fun W => (W.cell? ⟨R, 1, none⟩ = some (.int .i64 (gs : Int)) ∧ W.cell? ⟨R, 4, none⟩ = some (.int .i64 (wk : Int))) ∧ Below w.heap.size w W) (by kernel_rfl) ?_ (fun hHeld => ?_)
  · exact ⟨⟨c1, c4⟩, below_drew0 (Below.refl _ _)⟩
  refine wpAnyH_take (i := 0) (v := ?_) rfl (by kernel_rfl) (by kernel_rfl) (by kernel_rfl) (fun _ _ _ h => h) (Or.inl ⟨by rfl, ?_⟩) hHeld ?_
  rotate_left
  · intro w' hSw
    try dsimp only at hSw
    go_simp
    all_goals with_reducible rfl
  try simp only [List.getElem_toArray, List.getElem_cons_zero, Act.put, List.setIfInBounds_toArray, List.set_cons_zero, List.set_cons_succ]
  refine wpAnyH_take (i := 1) (v := ?_) rfl (by kernel_rfl) (by kernel_rfl) (by kernel_rfl) (fun _ _ _ h => h) (Or.inl ⟨by rfl, ?_⟩) hHeld ?_
  rotate_left
  · intro w' hSw
    try dsimp only at hSw
    go_simp
    all_goals with_reducible rfl
  try simp only [List.getElem_toArray, List.getElem_cons_succ, List.getElem_cons_zero, Act.put, List.setIfInBounds_toArray, List.set_cons_zero, List.set_cons_succ]
  refine wpAnyH_take (i := 2) (v := ?_) rfl (by kernel_rfl) (by kernel_rfl) (by kernel_rfl) (fun _ _ _ h => h) (Or.inl ⟨by rfl, ?_⟩) hHeld ?_
  rotate_left
  · intro w' hSw
    try dsimp only at hSw
    go_simp
    all_goals with_reducible rfl
  try simp only [List.getElem_toArray, List.getElem_cons_succ, List.getElem_cons_zero, Act.put, List.setIfInBounds_toArray, List.set_cons_zero, List.set_cons_succ]
  refine wpAnyH_take (i := 3) (v := ?_) rfl (by kernel_rfl) (by kernel_rfl) (by kernel_rfl) (fun _ _ _ h => h) (Or.inl ⟨by rfl, ?_⟩) hHeld ?_
  rotate_left
  · intro w' hSw
    try dsimp only at hSw
    go_simp
    all_goals with_reducible rfl
  try simp only [List.getElem_toArray, List.getElem_cons_succ, List.getElem_cons_zero, Act.put, List.setIfInBounds_toArray, List.set_cons_zero, List.set_cons_succ]
  refine wpAnyH_take (i := 4) (v := ?_) rfl (by kernel_rfl) (by kernel_rfl) (by kernel_rfl) (fun _ _ _ h => h) (Or.inl ⟨by rfl, ?_⟩) hHeld ?_
  rotate_left
  · intro w' hSw
    try dsimp only at hSw
    go_simp
    all_goals with_reducible rfl
  try simp only [List.getElem_toArray, List.getElem_cons_succ, List.getElem_cons_zero, Act.put, List.setIfInBounds_toArray, List.set_cons_zero, List.set_cons_succ]
  refine wpAnyH_take (i := 5) (v := ?_) rfl (by kernel_rfl) (by kernel_rfl) (by kernel_rfl) (fun _ _ _ h => h) (Or.inl ⟨by rfl, ?_⟩) hHeld ?_
  rotate_left
  · intro w' hSw
    try dsimp only at hSw
    go_simp
    all_goals with_reducible rfl
  try simp only [List.getElem_toArray, List.getElem_cons_succ, List.getElem_cons_zero, Act.put, List.setIfInBounds_toArray, List.set_cons_zero, List.set_cons_succ]
  refine wpAnyH_take (i := 6) (v := ?_) rfl (by kernel_rfl) (by kernel_rfl) (by kernel_rfl) (fun _ _ _ h => h) (Or.inl ⟨by rfl, ?_⟩) hHeld ?_
  rotate_left
  · intro w' hSw
    try dsimp only at hSw
    go_simp
    all_goals with_reducible rfl
  try simp only [List.getElem_toArray, List.getElem_cons_succ, List.getElem_cons_zero, Act.put, List.setIfInBounds_toArray, List.set_cons_zero, List.set_cons_succ]
  refine wpAnyH_take (i := 7) (v := ?_) rfl (by kernel_rfl) (by kernel_rfl) (by kernel_rfl) (fun _ _ _ h => h) (Or.inl ⟨by rfl, ?_⟩) hHeld ?_
  rotate_left
  · intro w' hSw
    try dsimp only at hSw
    go_simp
    all_goals with_reducible rfl
  try simp only [List.getElem_toArray, List.getElem_cons_succ, List.getElem_cons_zero, Act.put, List.setIfInBounds_toArray, List.set_cons_zero, List.set_cons_succ]
  refine wpAnyH_take (i := 8) (v := ?_) rfl (by kernel_rfl) (by kernel_rfl) (by kernel_rfl) (fun _ _ _ h => h) (Or.inl ⟨by rfl, ?_⟩) hHeld ?_
  rotate_left
  · intro w' hSw
    try dsimp only at hSw
    go_simp
    all_goals with_reducible rfl
  try simp only [List.getElem_toArray, List.getElem_cons_succ, List.getElem_cons_zero, Act.put, List.setIfInBounds_toArray, List.set_cons_zero, List.set_cons_succ]
  refine wpAnyH_take (i := 9) (v := ?_) rfl (by kernel_rfl) (by kernel_rfl) (by kernel_rfl) (fun _ _ _ h => h) (Or.inl ⟨by rfl, ?_⟩) hHeld ?_
  rotate_left
  · intro w' hSw
    try dsimp only at hSw
    go_simp
    all_goals with_reducible rfl
  try simp only [List.getElem_toArray, List.getElem_cons_succ, List.getElem_cons_zero, Act.put, List.setIfInBounds_toArray, List.set_cons_zero, List.set_cons_succ]
  refine wpAnyH_ready (rs := [10, 15]) (by kernel_rfl) (by simp) ?_
  refine AllReadyH.cons rfl (fun K hK => ?_) (AllReadyH.cons rfl (fun K hK => ?_) AllReadyH.nil)
  · go_simp
    refine (HN.out _).mono ?_
    rintro r w1 ⟨rfl, hb⟩
    refine hK.out _ _ ?_ (fun hHeld => ?_)
    · (try dsimp only)
      exact sk2 hHeld hR hb
    clear hK K
    have hW := hHeld
    refine wpAnyH_take (i := 11) (v := ?_) rfl (by kernel_rfl) (by kernel_rfl) (by kernel_rfl) (fun _ _ _ h => h) (Or.inl ⟨by rfl, ?_⟩) hHeld ?_
    rotate_left
    · intro w' hSw
      try dsimp only at hSw
      go_simp
      all_goals with_reducible rfl
    try simp only [List.getElem_toArray, List.getElem_cons_succ, List.getElem_cons_zero, Act.put, List.setIfInBounds_toArray, List.set_cons_zero, List.set_cons_succ]
    refine wpAnyH_take (i := 12) (v := ?_) rfl (by kernel_rfl) (by kernel_rfl) (by kernel_rfl) (fun _ _ _ h => h) (Or.inl ⟨by rfl, ?_⟩) hHeld ?_
    rotate_left
    · intro w' hSw
      try dsimp only at hSw
      go_simp
      all_goals with_reducible rfl
    try simp only [List.getElem_toArray, List.getElem_cons_succ, List.getElem_cons_zero, Act.put, List.setIfInBounds_toArray, List.set_cons_zero, List.set_cons_succ]
    refine wpAnyH_take (i := 13) (v := ?_) rfl (by kernel_rfl) (by kernel_rfl) (by kernel_rfl) (fun _ _ _ h => h) (Or.inl ⟨by rfl, ?_⟩) hHeld ?_
    rotate_left
    · intro w' hSw
      try dsimp only at hSw
      go_simp
      all_goals with_reducible rfl
    try simp only [List.getElem_toArray, List.getElem_cons_succ, List.getElem_cons_zero, Act.put, List.setIfInBounds_toArray, List.set_cons_zero, List.set_cons_succ]
    refine wpAnyH_take (i := 14) (v := ?_) rfl (by kernel_rfl) (by kernel_rfl) (by kernel_rfl) (fun _ _ _ h => h) (Or.inl ⟨by rfl, ?_⟩) hHeld ?_
    rotate_left
    · intro w' hSw
      try dsimp only at hSw
      go_simp
      all_goals with_reducible rfl
    try simp only [List.getElem_toArray, List.getElem_cons_succ, List.getElem_cons_zero, Act.put, List.setIfInBounds_toArray, List.set_cons_zero, List.set_cons_succ]
    refine wpAnyH_ready (rs := [15]) (by kernel_rfl) (by simp) ?_
    refine AllReadyH.cons rfl (fun K hK => ?_) AllReadyH.nil
    go_simp
    refine hK.out _ _ ?_ (fun hHeld => ?_)
    · (try dsimp only)
      exact sk2 hHeld hR ((Below.refl _ _).alloc (Nat.le_refl _) _)
    clear hK K
    refine wpAnyH_take (i := 16) (v := ?_) rfl (by kernel_rfl) (by kernel_rfl) (by kernel_rfl) (fun _ _ _ h => h) (Or.inl ⟨by rfl, ?_⟩) hHeld ?_
    rotate_left
    · intro w' hSw
      try dsimp only at hSw
      go_simp
      all_goals with_reducible rfl
    try simp only [List.getElem_toArray, List.getElem_cons_succ, List.getElem_cons_zero, Act.put, List.setIfInBounds_toArray, List.set_cons_zero, List.set_cons_succ]
    refine wpAnyH_take (i := 17) (v := ?_) rfl (by kernel_rfl) (by kernel_rfl) (by kernel_rfl) (fun _ _ _ h => h) (Or.inl ⟨by rfl, ?_⟩) hHeld ?_
    rotate_left
    · intro w' hSw
      try dsimp only at hSw
      go_simp
      all_goals with_reducible rfl
    try simp only [List.getElem_toArray, List.getElem_cons_succ, List.getElem_cons_zero, Act.put, List.setIfInBounds_toArray, List.set_cons_zero, List.set_cons_succ]
    refine wpAnyH_ready (rs := [18]) (by kernel_rfl) (by simp) ?_
    refine AllReadyH.cons rfl (fun K hK => ?_) AllReadyH.nil
    go_simp
    refine hK.out _ _ ?_ (fun hHeld => ?_)
    · (try dsimp only)
      exact sk2 hW hR ((Below.refl _ _).alloc (Nat.le_refl _) _)
    clear hK K
    refine wpAnyH_done (by kernel_rfl) ?_ _
    have hX := H.out.next hHeld.2
    have HB := hide hHeld.2
    have xo : (w1.alloc (.cells #[.int .i64 o, .bool false] 92)).cell? ⟨w1.heap.size, 0, none⟩ = some (.int .i64 o) := World.cell?_alloc_new w1 _ 92 0
    have xk : (w1.alloc (.cells #[.int .i64 o, .bool false] 92)).cell? ⟨w1.heap.size, 1, none⟩ = some (.bool false) := World.cell?_alloc_new w1 _ 92 1
    have xl : w1.heap.size < (w1.alloc (.cells #[.int .i64 o, .bool false] 92)).heap.size := by simp
    have xw : w.heap.size ≤ w1.heap.size := hb.size
    have d0 := hX.c0
    have d2 := hX.c2
    have d3 := hX.c3
    have d4 := hX.c4
    have f2 := hX.f 2 (by omega)
    have f3 := hX.f 3 (by omega)
    have f4 := hX.f 4 (by omega)
    have hR9 := hX.hR
    have hR9' : R < w1.heap.size + 1 := by simpa [World.setCell] using hR9
    have nO := hX.nO
    have xR : ¬ w1.heap.size = R := by omega
    have xR' : ¬ R = w1.heap.size := by omega
    have xG : ¬ gb = (w1.heap.size) := fun e => by have := H.out.g.lt gb rfl; omega
    have HX := hide hX
    have HH := hide hHeld
    clear hX c0 c1 c4 c5 c6 hHeld
    go_wp2_with (go_quiet (fail))
    have HX2 := hide (show Rk ((((w1.alloc (.cells #[.int .i64 o, .bool false] 92)).drewN nq).setCell ⟨R, 2, none⟩ (.slice (some ⟨gb, gf', none⟩) m (gc - 1))).setCell ⟨R, 3, none⟩ (.slice (some ⟨ob, of', none⟩) m (oc - 1))) R (m + 1) gs (.slice (some ⟨gb, gf', none⟩) m (gc - 1)) (.slice (some ⟨ob, of', none⟩) m (oc - 1)) m wk at_ false from (HX.out.next (below_drewN (Below.refl _ _) nq)).cut hgf hof)
    have p2 := HX2.out.c2
    have p3 := HX2.out.c3
    have p4 := HX2.out.c4
    have q2 := HX2.out.f 2 (by omega)
    have q3 := HX2.out.f 3 (by omega)
    have q4 := HX2.out.f 4 (by omega)
    have F02 : Hid (Fr (fun k => k = R) (w1.alloc (.cells #[.int .i64 o, .bool false] 92)) ((((w1.alloc (.cells #[.int .i64 o, .bool false] 92)).drewN nq).setCell ⟨R, 2, none⟩ (.slice (some ⟨gb, gf', none⟩) m (gc - 1))).setCell ⟨R, 3, none⟩ (.slice (some ⟨ob, of', none⟩) m (oc - 1)))) := hide (((Fr.of_below (below_drewN (Below.refl _ _) nq)).trans (rk_fr _ R 2 _) (fun _ _ e => e)).trans (rk_fr _ R 3 _) (fun _ _ e => e))
    have xo2 : ((((w1.alloc (.cells #[.int .i64 o, .bool false] 92)).drewN nq).setCell ⟨R, 2, none⟩ (.slice (some ⟨gb, gf', none⟩) m (gc - 1))).setCell ⟨R, 3, none⟩ (.slice (some ⟨ob, of', none⟩) m (oc - 1))).cell? ⟨w1.heap.size, 0, none⟩ = some (.int .i64 o) := (F02.out.cell xl xR).trans xo
    have xl2 := hide (Nat.lt_of_lt_of_le xl F02.out.size)
    clear d0 d2 d3 d4 f2 f3 f4 hgf hof
    go_region_law ((refine step_sl_app rfl (.tmp 110) (.tmp 115) 79 rfl Try.underlying79 (.slice (some ⟨gb, gf', none⟩) m (gc - 1)) m ⟨w1.heap.size + 1, 0, none⟩ 1 wk (by first | (simp [Act.eval]; done) | simp [Act.eval, Act.put]) (HX2.out.g.next (below_da2 _ _)) (by omega) (by first | (simp [Act.eval]; done) | simp [Act.eval, Act.put]) (by simp [go_sem]) ?_; intro g1 o1 p1 w3 q1 f1 t1; have RC := HX2.out.rc (below_da2 _ _) f1; have x3 : w3.cell? ⟨w1.heap.size, 0, none⟩ = some (.int .i64 o) := (f1.cell (Nat.lt_of_lt_of_le xl2.out (below_da2 _ _).size) (fun e => xG (by injection e))).trans (((below_da2 _ _).cell (p := ⟨w1.heap.size, 0, none⟩) xl2.out).trans xo2); have r2 := RC.c2; have r3 := RC.c3; have r4 := RC.c4; have y2 := RC.f 2 (by omega); have y3 := RC.f 3 (by omega); have y4 := RC.f 4 (by omega); have hR3 := RC.hR; have xl3 : w1.heap.size < w3.heap.size := Nat.lt_of_lt_of_le (Nat.lt_of_lt_of_le xl2.out (below_da2 _ _).size) f1.size; have HRC := hide RC; have Q1 := hide q1; have F1 := hide f1; have T1 := hide t1; clear RC q1 f1 t1))
    all_goals
      go_wp2_with fail
      have x3d : ((w3.setCell ⟨R, 2, none⟩ (.slice (some ⟨g1, o1, none⟩) (m + 1) p1)).drew).cell? ⟨w1.heap.size, 0, none⟩ = some (.int .i64 o) := (setCell_cell_other (by intro e; injection e; omega)).trans x3
      go_region_law ((refine step_sl_app rfl (.tmp 123) (.tmp 126) 79 rfl Try.underlying79 (.slice (some ⟨ob, of', none⟩) m (oc - 1)) m ⟨w3.heap.size, 0, none⟩ 1 o (by first | (simp [Act.eval]; done) | simp [Act.eval, Act.put]) ((HRC.out.o.fr (rk_fr w3 R 2 _) (fun k hk e => nO (by rw [← e]; exact hk))).next (below_da2 _ _)) (by omega) (by first | (simp [Act.eval]; done) | simp [Act.eval, Act.put]) (by simp [go_sem]) ?_; intro g2 o2 p2' w4 q2' f2' t2; have RR := HRC.out.rc2 nO _ (below_sc (below_da2 _ _)) f2'; have s3 := RR.1; have s4 := RR.2.1; have u3 := RR.2.2.1; have u4 := RR.2.2.2; have E := hide (rlearn_end (w := w) (G := .slice (some ⟨gb, gf, none⟩) (m + 1) gc) (O := .slice (some ⟨ob, of_, none⟩) (m + 1) oc) HX2.out rfl (Nat.le_refl _) ((Fr.of_below HB.out).trans F02.out (fun _ _ e => .inl e)) (fun _ e => .inl e) (below_da2 _ _) Q1.out F1.out rfl T1.out (below_sc (below_da2 _ _)) q2' f2' rfl t2); clear q2' f2' t2))
      all_goals
        go_wp2
        go_ret3
        exact ⟨⟨_, _, _, rfl⟩, E.out⟩
  · go_simp
    refine hK.out _ _ ?_ (fun hHeld => ?_)
    · (try dsimp only)
      exact sk2 hHeld hR ((Below.refl _ _).alloc (Nat.le_refl _) _)
    clear hK K
    refine wpAnyH_ready (rs := [10]) (by kernel_rfl) (by simp) ?_
    refine AllReadyH.cons rfl (fun K hK => ?_) AllReadyH.nil
    go_simp
    refine (HN.out _).mono ?_
    rintro r w1 ⟨rfl, hb⟩
    have lB : w.heap.size < w1.heap.size := Nat.lt_of_lt_of_le (by simp) hb.size
    have e0 : w1.cell? ⟨w.heap.size, 0, none⟩ = some (.int .i64 0) := (hb.cell (p := ⟨w.heap.size, 0, none⟩) (by simp)).trans (World.cell?_alloc_new w.drew _ 92 0)
    have e1 : w1.cell? ⟨w.heap.size, 1, none⟩ = some (.bool false) := (hb.cell (p := ⟨w.heap.size, 1, none⟩) (by simp)).trans (World.cell?_alloc_new w.drew _ 92 1)
    have e2 : w1.frozen? ⟨w.heap.size, 0, none⟩ = false := (hb.frozen (p := ⟨w.heap.size, 0, none⟩) (by simp)).trans (World.frozen?_alloc_new w.drew _ 92 0)
    have e3 : w1.frozen? ⟨w.heap.size, 1, none⟩ = false := (hb.frozen (p := ⟨w.heap.size, 1, none⟩) (by simp)).trans (World.frozen?_alloc_new w.drew _ 92 1)
    refine hK.out _ _ ?_ (fun hHeld => ?_)
    · (try dsimp only)
      exact sk2 hHeld hR hb
    clear hK K
    refine wpAnyH_take (i := 11) (v := ?_) rfl (by kernel_rfl) (by kernel_rfl) (by kernel_rfl) (fun _ _ _ h => h) (Or.inl ⟨by rfl, ?_⟩) hHeld ?_
    rotate_left
    · intro w' hSw
      try dsimp only at hSw
      go_simp
      all_goals with_reducible rfl
    try simp only [List.getElem_toArray, List.getElem_cons_succ, List.getElem_cons_zero, Act.put, List.setIfInBounds_toArray, List.set_cons_zero, List.set_cons_succ]
    refine wpAnyH_take (i := 12) (v := ?_) rfl (by kernel_rfl) (by kernel_rfl) (by kernel_rfl) (fun _ _ _ h => h) (Or.inl ⟨by rfl, ?_⟩) hHeld ?_
    rotate_left
    · intro w' hSw
      try dsimp only at hSw
      go_simp
      all_goals with_reducible rfl
    try simp only [List.getElem_toArray, List.getElem_cons_succ, List.getElem_cons_zero, Act.put, List.setIfInBounds_toArray, List.set_cons_zero, List.set_cons_succ]
    refine wpAnyH_take (i := 13) (v := ?_) rfl (by kernel_rfl) (by kernel_rfl) (by kernel_rfl) (fun _ _ _ h => h) (Or.inl ⟨by rfl, ?_⟩) hHeld ?_
    rotate_left
    · intro w' hSw
      try dsimp only at hSw
      go_simp
      all_goals with_reducible rfl
    try simp only [List.getElem_toArray, List.getElem_cons_succ, List.getElem_cons_zero, Act.put, List.setIfInBounds_toArray, List.set_cons_zero, List.set_cons_succ]
    refine wpAnyH_take (i := 14) (v := ?_) rfl (by kernel_rfl) (by kernel_rfl) (by kernel_rfl) (fun _ _ _ h => h) (Or.inl ⟨by rfl, ?_⟩) hHeld ?_
    rotate_left
    · intro w' hSw
      try dsimp only at hSw
      go_simp
      all_goals with_reducible rfl
    try simp only [List.getElem_toArray, List.getElem_cons_succ, List.getElem_cons_zero, Act.put, List.setIfInBounds_toArray, List.set_cons_zero, List.set_cons_succ]
    refine wpAnyH_take (i := 16) (v := ?_) rfl (by kernel_rfl) (by kernel_rfl) (by kernel_rfl) (fun _ _ _ h => h) (Or.inl ⟨by rfl, ?_⟩) hHeld ?_
    rotate_left
    · intro w' hSw
      try dsimp only at hSw
      go_simp
      all_goals with_reducible rfl
    try simp only [List.getElem_toArray, List.getElem_cons_succ, List.getElem_cons_zero, Act.put, List.setIfInBounds_toArray, List.set_cons_zero, List.set_cons_succ]
    refine wpAnyH_take (i := 17) (v := ?_) rfl (by kernel_rfl) (by kernel_rfl) (by kernel_rfl) (fun _ _ _ h => h) (Or.inl ⟨by rfl, ?_⟩) hHeld ?_
    rotate_left
    · intro w' hSw
      try dsimp only at hSw
      go_simp
      all_goals with_reducible rfl
    try simp only [List.getElem_toArray, List.getElem_cons_succ, List.getElem_cons_zero, Act.put, List.setIfInBounds_toArray, List.set_cons_zero, List.set_cons_succ]
    refine wpAnyH_ready (rs := [18]) (by kernel_rfl) (by simp) ?_
    refine AllReadyH.cons rfl (fun K hK => ?_) AllReadyH.nil
    go_simp
    refine hK.out _ _ ?_ (fun hHeld => ?_)
    · (try dsimp only)
      exact skB hHeld hR
    clear hK K
    refine wpAnyH_done (by kernel_rfl) ?_ _
    have hX := H.out.next hHeld.2
    have HB := hide hHeld.2
    have xo : ((w1.setCell ⟨w.heap.size, 0, none⟩ (.int .i64 o)).setCell ⟨w.heap.size, 1, none⟩ (.bool false)).cell? ⟨w.heap.size, 0, none⟩ = some (.int .i64 o) := (setCell_cell_other (by intro e; injection e; omega)).trans (World.cell?_setCell_same' _ _ _ (by rw [e0]; rfl))
    have xk : ((w1.setCell ⟨w.heap.size, 0, none⟩ (.int .i64 o)).setCell ⟨w.heap.size, 1, none⟩ (.bool false)).cell? ⟨w.heap.size, 1, none⟩ = some (.bool false) := World.cell?_setCell_same' _ _ _ (by rw [setCell_cell_other (by intro e; injection e; omega), e1]; rfl)
    have xl : w.heap.size < ((w1.setCell ⟨w.heap.size, 0, none⟩ (.int .i64 o)).setCell ⟨w.heap.size, 1, none⟩ (.bool false)).heap.size := by simpa [World.setCell] using lB
    have xw : w.heap.size ≤ w.heap.size := Nat.le_refl _
    have d0 := hX.c0
    have d2 := hX.c2
    have d3 := hX.c3
    have d4 := hX.c4
    have f2 := hX.f 2 (by omega)
    have f3 := hX.f 3 (by omega)
    have f4 := hX.f 4 (by omega)
    have hR9 := hX.hR
    have hR9' : R < w1.heap.size := by simpa [World.setCell] using hR9
    have nO := hX.nO
    have xR : ¬ w.heap.size = R := by omega
    have xR' : ¬ R = w.heap.size := by omega
    have xG : ¬ gb = (w.heap.size) := fun e => by have := H.out.g.lt gb rfl; omega
    have HX := hide hX
    have HH := hide hHeld
    clear hX c0 c1 c4 c5 c6 hHeld
    go_wp2_with (go_quiet (fail))
    have HX2 := hide (show Rk (((((w1.setCell ⟨w.heap.size, 0, none⟩ (.int .i64 o)).setCell ⟨w.heap.size, 1, none⟩ (.bool false)).drewN nq).setCell ⟨R, 2, none⟩ (.slice (some ⟨gb, gf', none⟩) m (gc - 1))).setCell ⟨R, 3, none⟩ (.slice (some ⟨ob, of', none⟩) m (oc - 1))) R (m + 1) gs (.slice (some ⟨gb, gf', none⟩) m (gc - 1)) (.slice (some ⟨ob, of', none⟩) m (oc - 1)) m wk at_ false from (HX.out.next (below_drewN (Below.refl _ _) nq)).cut hgf hof)
    have p2 := HX2.out.c2
    have p3 := HX2.out.c3
    have p4 := HX2.out.c4
    have q2 := HX2.out.f 2 (by omega)
    have q3 := HX2.out.f 3 (by omega)
    have q4 := HX2.out.f 4 (by omega)
    have F02 : Hid (Fr (fun k => k = R) ((w1.setCell ⟨w.heap.size, 0, none⟩ (.int .i64 o)).setCell ⟨w.heap.size, 1, none⟩ (.bool false)) (((((w1.setCell ⟨w.heap.size, 0, none⟩ (.int .i64 o)).setCell ⟨w.heap.size, 1, none⟩ (.bool false)).drewN nq).setCell ⟨R, 2, none⟩ (.slice (some ⟨gb, gf', none⟩) m (gc - 1))).setCell ⟨R, 3, none⟩ (.slice (some ⟨ob, of', none⟩) m (oc - 1)))) := hide (((Fr.of_below (below_drewN (Below.refl _ _) nq)).trans (rk_fr _ R 2 _) (fun _ _ e => e)).trans (rk_fr _ R 3 _) (fun _ _ e => e))
    have xo2 : (((((w1.setCell ⟨w.heap.size, 0, none⟩ (.int .i64 o)).setCell ⟨w.heap.size, 1, none⟩ (.bool false)).drewN nq).setCell ⟨R, 2, none⟩ (.slice (some ⟨gb, gf', none⟩) m (gc - 1))).setCell ⟨R, 3, none⟩ (.slice (some ⟨ob, of', none⟩) m (oc - 1))).cell? ⟨w.heap.size, 0, none⟩ = some (.int .i64 o) := (F02.out.cell xl xR).trans xo
    have xl2 := hide (Nat.lt_of_lt_of_le xl F02.out.size)
    clear d0 d2 d3 d4 f2 f3 f4 hgf hof
    go_region_law ((refine step_sl_app rfl (.tmp 110) (.tmp 115) 79 rfl Try.underlying79 (.slice (some ⟨gb, gf', none⟩) m (gc - 1)) m ⟨w1.heap.size, 0, none⟩ 1 wk (by first | (simp [Act.eval]; done) | simp [Act.eval, Act.put]) (HX2.out.g.next (below_da2 _ _)) (by omega) (by first | (simp [Act.eval]; done) | simp [Act.eval, Act.put]) (by simp [go_sem]) ?_; intro g1 o1 p1 w3 q1 f1 t1; have RC := HX2.out.rc (below_da2 _ _) f1; have x3 : w3.cell? ⟨w.heap.size, 0, none⟩ = some (.int .i64 o) := (f1.cell (Nat.lt_of_lt_of_le xl2.out (below_da2 _ _).size) (fun e => xG (by injection e))).trans (((below_da2 _ _).cell (p := ⟨w.heap.size, 0, none⟩) xl2.out).trans xo2); have r2 := RC.c2; have r3 := RC.c3; have r4 := RC.c4; have y2 := RC.f 2 (by omega); have y3 := RC.f 3 (by omega); have y4 := RC.f 4 (by omega); have hR3 := RC.hR; have xl3 : w.heap.size < w3.heap.size := Nat.lt_of_lt_of_le (Nat.lt_of_lt_of_le xl2.out (below_da2 _ _).size) f1.size; have HRC := hide RC; have Q1 := hide q1; have F1 := hide f1; have T1 := hide t1; clear RC q1 f1 t1))
    all_goals
      go_wp2_with fail
      have x3d : ((w3.setCell ⟨R, 2, none⟩ (.slice (some ⟨g1, o1, none⟩) (m + 1) p1)).drew).cell? ⟨w.heap.size, 0, none⟩ = some (.int .i64 o) := (setCell_cell_other (by intro e; injection e; omega)).trans x3
      go_region_law ((refine step_sl_app rfl (.tmp 123) (.tmp 126) 79 rfl Try.underlying79 (.slice (some ⟨ob, of', none⟩) m (oc - 1)) m ⟨w3.heap.size, 0, none⟩ 1 o (by first | (simp [Act.eval]; done) | simp [Act.eval, Act.put]) ((HRC.out.o.fr (rk_fr w3 R 2 _) (fun k hk e => nO (by rw [← e]; exact hk))).next (below_da2 _ _)) (by omega) (by first | (simp [Act.eval]; done) | simp [Act.eval, Act.put]) (by simp [go_sem]) ?_; intro g2 o2 p2' w4 q2' f2' t2; have RR := HRC.out.rc2 nO _ (below_sc (below_da2 _ _)) f2'; have s3 := RR.1; have s4 := RR.2.1; have u3 := RR.2.2.1; have u4 := RR.2.2.2; have E := hide (rlearn_end (w := w) (G := .slice (some ⟨gb, gf, none⟩) (m + 1) gc) (O := .slice (some ⟨ob, of_, none⟩) (m + 1) oc) HX2.out rfl (Nat.le_refl _) ((Fr.of_below HB.out).trans F02.out (fun _ _ e => .inl e)) (fun _ e => .inl e) (below_da2 _ _) Q1.out F1.out rfl T1.out (below_sc (below_da2 _ _)) q2' f2' rfl t2); clear q2' f2' t2))
      all_goals
        go_wp2
        go_ret3
        exact ⟨⟨_, _, _, rfl⟩, E.out⟩
end
end Go.Proofs.Ytfikiophfphmbaa
