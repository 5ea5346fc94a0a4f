/- The reference of layer 9 (checker): Walked, where it learns. -/
import Derived.Test.YtfikiophfphmbaaV6
import Derived.WalkKit
import Derived.WalkSpells
import Derived.ProofKit
import Derived.Outline
import Derived.Handy
import Derived.RowKit3
import Derived.BigQuiet
import Derived.Deep.QuietTactic
import Derived.Deep.RegionHeld3
import Derived.Deep.Draws
import Derived.Deep.RegionLaw
import Derived.RegionTactic
import Derived.BigRegion
import Derived.IntWalk
import Derived.LoopTactic
import Derived.OwnWalk
import Derived.Laws.AppendOwn
import Derived.Laws.OwnMore
import Derived.Laws.MakeOwn
import Derived.Laws.Pointers
import Derived.Maps.AppendAt
import Derived.Deep.AppendLies
import Derived.Below
namespace Go.Proofs.Ytfikiophfphmbaa
open Go.RowKit
set_option linter.unusedVariables false
set_option maxRecDepth 100000

theorem below_da (w : World) (n : Nat) (o : Obj) : Below w.heap.size w ((w.drewN n).alloc o) := (below_drewN (Below.refl _ w) n).alloc (Nat.le_refl _) o
theorem below_sc {w W' : World} {p : Addr} {v : Value} (h : Below (w.setCell p v).heap.size (w.setCell p v) W') : Below w.heap.size (w.setCell p v) W' := by simpa [World.setCell] using h
theorem below_da2 (w : World) (o : Obj) : Below w.heap.size w (w.alloc o).drew := below_drew0 ((Below.refl _ w).alloc (Nat.le_refl _) o)
theorem below_da1 (w : World) (o : Obj) : Below w.heap.size w (w.drew.alloc o) := (below_drew0 (Below.refl _ w)).alloc (Nat.le_refl _) o
/-- What holds of the reference's checker where its first slice was appended to. -/
structure Rc (w : World) (R : Nat) (G O : Value) (n : Nat) (wk : Int) : Prop where
  hR : R < w.heap.size
  c2 : w.cell? ⟨R, 2, none⟩ = some G
  c3 : w.cell? ⟨R, 3, none⟩ = some O
  c4 : w.cell? ⟨R, 4, none⟩ = some (.int .i64 wk)
  f : ∀ t, t < 7 → w.frozen? ⟨R, t, none⟩ = false
  o : Sl w O n
theorem Rk.rc {W W' w3 : World} {R en gs n : Nat} {G O : Value} {wk at_ : Int} {st : Bool} (h : Rk W R en gs G O n wk at_ st) (b : Below W.heap.size W W') (f : Fr (fun k => G.ownBlock = some k) W' w3) : Rc w3 R G O n wk := by
  have k := h.next b
  have nG : ¬ G.ownBlock = some R := h.nG
  exact ⟨Nat.lt_of_lt_of_le k.hR f.size, (f.cell k.hR nG).trans k.c2, (f.cell k.hR nG).trans k.c3, (f.cell k.hR nG).trans k.c4, fun t ht => (f.frozen k.hR nG).trans (k.f t ht), k.o.fr f (fun j hj e => h.dis j e hj)⟩
theorem Rc.rc2 {W W' w3 : World} {R n : Nat} {G O : Value} {wk : Int} (h : Rc W R G O n wk) (hO : O.ownBlock ≠ some R) (g : Value) (b : Below W.heap.size (W.setCell ⟨R, 2, none⟩ g) W') (f : Fr (fun k => O.ownBlock = some k) W' w3) : w3.cell? ⟨R, 3, none⟩ = some O ∧ w3.cell? ⟨R, 4, none⟩ = some (.int .i64 wk) ∧ w3.frozen? ⟨R, 3, none⟩ = false ∧ w3.frozen? ⟨R, 4, none⟩ = false := by
  have hl : R < W'.heap.size := Nat.lt_of_lt_of_le (by simpa [World.setCell] using h.hR) b.size
  have e : ∀ i, i ≠ 2 → w3.cell? ⟨R, i, none⟩ = W.cell? ⟨R, i, none⟩ := fun i hi => (f.cell hl hO).trans ((b.cell (p := ⟨R, i, none⟩) h.hR).trans (rk_other W R 2 i g hi))
  have e2 : ∀ i, w3.frozen? ⟨R, i, none⟩ = W.frozen? ⟨R, i, none⟩ := fun i => (f.frozen hl hO).trans ((b.frozen (p := ⟨R, i, none⟩) h.hR).trans (by simp [World.frozen?_setCell]))
  exact ⟨(e 3 (by omega)).trans h.c3, (e 4 (by omega)).trans h.c4, (e2 3).trans (h.f 3 (by omega)), (e2 4).trans (h.f 4 (by omega))⟩
theorem rlearn_end {w W9 W' w3 W'' w4 : World} {R en gs n m : Nat} {G O G9 O9 G' O' : Value} {wk at_ : Int} {st : Bool} {g1 g2 : Nat} (h : Rk W9 R en gs G9 O9 n wk at_ st) (hn : n + 1 = m) (hle : m ≤ en) (f0 : Fr (Rk.S R G O) w W9) (s0 : ∀ k, Rk.S R G9 O9 k → Rk.S R G O k ∨ w.heap.size ≤ k)
    (b1 : Below W9.heap.size W9 W') (q1 : Sl w3 G' m) (f1 : Fr (fun k => G9.ownBlock = some k) W' w3) (e1 : G'.ownBlock = some g1) (t1 : G9.ownBlock = some g1 ∨ W'.heap.size ≤ g1)
    (b2 : Below w3.heap.size (w3.setCell ⟨R, 2, none⟩ G') W'') (q2 : Sl w4 O' m) (f2 : Fr (fun k => O9.ownBlock = some k) W'' w4) (e2 : O'.ownBlock = some g2) (t2 : O9.ownBlock = some g2 ∨ W''.heap.size ≤ g2) :
    Rent R en gs G O w ((w4.setCell ⟨R, 3, none⟩ O').setCell ⟨R, 4, none⟩ (.int .i64 (-1))) := by
  subst hn
  have nG : ¬ G9.ownBlock = some R := h.nG
  have nO : ¬ O9.ownBlock = some R := h.nO
  have z1 : W9.heap.size ≤ W'.heap.size := b1.size
  have z2 : W'.heap.size ≤ w3.heap.size := f1.size
  have z3 : w3.heap.size ≤ W''.heap.size := by simpa [World.setCell] using b2.size
  have z4 : W''.heap.size ≤ w4.heap.size := f2.size
  have hR := h.hR
  have g1R : g1 ≠ R := by
    rintro rfl
    rcases t1 with t | t
    · exact nG t
    · omega
  have g2R : g2 ≠ R := by
    rintro rfl
    rcases t2 with t | t
    · exact nO t
    · omega
  have lG : g1 < w3.heap.size := q1.lt g1 e1
  have oL : ∀ k, O9.ownBlock = some k → k < W9.heap.size := h.o.lt
  have hne : g1 ≠ g2 := by
    rintro rfl
    rcases t2 with t2 | t2
    · rcases t1 with t1 | t1
      · exact h.dis _ t1 t2
      · have := oL _ t2; omega
    · omega
  have g1O : ¬ O9.ownBlock = some g1 := by
    intro e
    rcases t1 with t1 | t1
    · exact h.dis _ t1 e
    · have := oL _ e; omega
  have F2 : Fr (fun k => k = R) w3 W'' := (rk_fr w3 R 2 G').trans (Fr.of_below (S := fun _ => False) (b2.mono (by simp [World.setCell]))) (fun _ _ e => e.elim)
  have F4 : Fr (fun k => k = R) w4 ((w4.setCell ⟨R, 3, none⟩ O').setCell ⟨R, 4, none⟩ (.int .i64 (-1))) := (rk_fr w4 R 3 O').trans (rk_fr _ R 4 _) (fun _ _ e => e)
  have ce : ∀ i, i ≠ 2 → i ≠ 3 → i ≠ 4 → ((w4.setCell ⟨R, 3, none⟩ O').setCell ⟨R, 4, none⟩ (.int .i64 (-1))).cell? ⟨R, i, none⟩ = W9.cell? ⟨R, i, none⟩ := fun i h2 h3 h4 =>
    (rk_other _ R 4 i _ h4).trans ((rk_other _ R 3 i _ h3).trans ((f2.cell (by omega) nO).trans ((b2.cell (p := ⟨R, i, none⟩) (by show R < _; omega)).trans ((rk_other w3 R 2 i G' h2).trans ((f1.cell (by omega) nG).trans (b1.cell (p := ⟨R, i, none⟩) hR))))))
  have i2 : ((w3).cell? ⟨R, 2, none⟩).isSome = true := by rw [f1.cell (by omega) nG, b1.cell (p := ⟨R, 2, none⟩) hR, h.c2]; rfl
  have c2 : ((w4.setCell ⟨R, 3, none⟩ O').setCell ⟨R, 4, none⟩ (.int .i64 (-1))).cell? ⟨R, 2, none⟩ = some G' :=
    (rk_other _ R 4 2 _ (by omega)).trans ((rk_other _ R 3 2 _ (by omega)).trans ((f2.cell (by omega) nO).trans ((b2.cell (p := ⟨R, 2, none⟩) (by show R < _; omega)).trans (World.cell?_setCell_same' _ _ _ i2))))
  have e34 : ∀ i, i ≠ 2 → w4.cell? ⟨R, i, none⟩ = W9.cell? ⟨R, i, none⟩ := fun i h2 => (f2.cell (by omega) nO).trans ((b2.cell (p := ⟨R, i, none⟩) (by show R < _; omega)).trans ((rk_other w3 R 2 i G' h2).trans ((f1.cell (by omega) nG).trans (b1.cell (p := ⟨R, i, none⟩) hR))))
  have c3 : ((w4.setCell ⟨R, 3, none⟩ O').setCell ⟨R, 4, none⟩ (.int .i64 (-1))).cell? ⟨R, 3, none⟩ = some O' := (rk_other _ R 4 3 _ (by omega)).trans (World.cell?_setCell_same' _ _ _ (by rw [e34 3 (by omega), h.c3]; rfl))
  have c4 : ((w4.setCell ⟨R, 3, none⟩ O').setCell ⟨R, 4, none⟩ (.int .i64 (-1))).cell? ⟨R, 4, none⟩ = some (.int .i64 (-1)) := World.cell?_setCell_same' _ _ _ (by rw [rk_other _ R 3 4 _ (by omega), e34 4 (by omega), h.c4]; rfl)
  have fz : ∀ i, ((w4.setCell ⟨R, 3, none⟩ O').setCell ⟨R, 4, none⟩ (.int .i64 (-1))).frozen? ⟨R, i, none⟩ = W9.frozen? ⟨R, i, none⟩ := fun i => by
    rw [World.frozen?_setCell, World.frozen?_setCell, f2.frozen (by omega) nO, b2.frozen (p := ⟨R, i, none⟩) (by show R < _; omega), World.frozen?_setCell, f1.frozen (by omega) nG, b1.frozen (p := ⟨R, i, none⟩) hR]
  have sG : Sl ((w4.setCell ⟨R, 3, none⟩ O').setCell ⟨R, 4, none⟩ (.int .i64 (-1))) G' (n + 1) := by
    refine ((q1.fr F2 (fun k hk e => ?_)).fr f2 (fun k hk e => ?_)).fr F4 (fun k hk e => ?_)
    · rw [e1] at hk; injection hk with hk; omega
    · rw [e1] at hk; injection hk with hk; exact g1O (hk ▸ e)
    · rw [e1] at hk; injection hk with hk; omega
  have sO : Sl ((w4.setCell ⟨R, 3, none⟩ O').setCell ⟨R, 4, none⟩ (.int .i64 (-1))) O' (n + 1) := q2.fr F4 (fun k hk e => by rw [e2] at hk; injection hk with hk; omega)
  refine ⟨G', O', n + 1, -1, at_, st, ⟨Nat.lt_of_lt_of_le hR (by have := F4.size; omega), (ce 0 (by omega) (by omega) (by omega)).trans h.c0, (ce 1 (by omega) (by omega) (by omega)).trans h.c1, c2, c3, c4, (ce 5 (by omega) (by omega) (by omega)).trans h.c5, (ce 6 (by omega) (by omega) (by omega)).trans h.c6, fun t ht => (fz t).trans (h.f t ht), sG, sO, fun e => g1R (by rw [e1] at e; injection e), fun e => g2R (by rw [e2] at e; injection e), fun k hk e => hne (by rw [e1] at hk; rw [e2] at e; injection hk with hk; injection e with e; omega), h.e1, h.e8, hle, h.g16, by omega⟩, ?_, ?_⟩
  · have sG9 : ∀ i, i < w.heap.size → G9.ownBlock = some i → Rk.S R G O i := fun i hi e => (s0 i (.inr (.inl e))).elim id (fun x => by omega)
    have sO9 : ∀ i, i < w.heap.size → O9.ownBlock = some i → Rk.S R G O i := fun i hi e => (s0 i (.inr (.inr e))).elim id (fun x => by omega)
    exact ((((f0.trans (Fr.of_below (S := fun _ => False) b1) (fun _ _ e => e.elim)).trans f1 sG9).trans F2 (fun _ _ e => .inl e)).trans f2 sO9).trans F4 (fun _ _ e => .inl e)
  · have zw := f0.size
    rintro k (e | e | e)
    · exact .inl (.inl e)
    · rw [e1] at e; injection e with e; subst e
      rcases t1 with t | t
      · exact s0 _ (.inr (.inl t))
      · exact .inr (by omega)
    · rw [e2] at e; injection e with e; subst e
      rcases t2 with t | t
      · exact s0 _ (.inr (.inr t))
      · exact .inr (by omega)
section
variable {R en gs n : Nat} {G O : Value} {wk : Nat} {at_ : Int} {st : Bool}
set_option maxHeartbeats 8000000 in
theorem rw_room (hlt : n < en) (o word : Int) (hN : ∀ W, Calls Try.prog 50 #[.int .i64 gs, .int .i64 wk, .int .i64 at_, .int .i64 word] W (StepR 2 0 o false W)) (w : World) (h : Rk w R en gs G O n wk at_ false) : Calls Try.prog 40 #[.pointer (some ⟨R, 0, none⟩), .int .i64 at_, .int .i64 word] w (WalR R en gs G O w) := by
  have c0 := h.c0
  have c1 := h.c1
  have c4 := h.c4
  have c5 := h.c5
  have c6 := h.c6
  have hR := h.hR
  have hw := h.wb
  have hw0 : (0 : Int) ≤ wk := by omega
  have H := hide h
  have HN := hide hN
  clear h hN
  have hge : ∃ a c, G = .slice a n c := by
    rcases H.out.g with ⟨e, e2⟩ | ⟨b, off, cap, e, -⟩
    · exact ⟨none, 0, by rw [e, e2]⟩
    · exact ⟨_, _, e⟩
  obtain ⟨ga, gc, rfl⟩ := hge
  have hoe : ∃ a c, O = .slice a n c := by
    rcases H.out.o with ⟨e, e2⟩ | ⟨b, off, cap, e, -⟩
    · exact ⟨none, 0, by rw [e, e2]⟩
    · exact ⟨_, _, e⟩
  obtain ⟨oa, oc, rfl⟩ := hoe
  have he8 := H.out.e8
  have hne : (n == en) = false := by rw [beq_eq_false_iff_ne]; omega
  have hne' : ((n : Int) == (en : Int)) = false := by rw [beq_eq_false_iff_ne]; omega
  go_enter Try.func40, Try.ntmps40
  go_wp2_with fail
  refine wp_region_held_drew (S := fun W => (W.cell? ⟨R, 1, none⟩ = some (.int .i64 (gs : Int)) ∧ W.cell? ⟨R, 4, none⟩ = some (.int .i64 (wk : Int))) ∧ Below w.heap.size w W) (by kernel_rfl) ?_ (fun hHeld => ?_)
  · exact ⟨⟨c1, c4⟩, below_drew0 (Below.refl _ _)⟩
  refine wpAnyH_take (i := 0) (v := ?_) rfl (by kernel_rfl) (by kernel_rfl) (by kernel_rfl) (fun _ _ _ h => h) (Or.inl ⟨by rfl, ?_⟩) hHeld ?_
  rotate_left
  · intro w' hSw
    try dsimp only at hSw
    go_simp
    all_goals with_reducible rfl
  try simp only [List.getElem_toArray, List.getElem_cons_zero, Act.put, List.setIfInBounds_toArray, List.set_cons_zero, List.set_cons_succ]
  refine wpAnyH_take (i := 1) (v := ?_) rfl (by kernel_rfl) (by kernel_rfl) (by kernel_rfl) (fun _ _ _ h => h) (Or.inl ⟨by rfl, ?_⟩) hHeld ?_
  rotate_left
  · intro w' hSw
    try dsimp only at hSw
    go_simp
    all_goals with_reducible rfl
  try simp only [List.getElem_toArray, List.getElem_cons_succ, List.getElem_cons_zero, Act.put, List.setIfInBounds_toArray, List.set_cons_zero, List.set_cons_succ]
  refine wpAnyH_take (i := 2) (v := ?_) rfl (by kernel_rfl) (by kernel_rfl) (by kernel_rfl) (fun _ _ _ h => h) (Or.inl ⟨by rfl, ?_⟩) hHeld ?_
  rotate_left
  · intro w' hSw
    try dsimp only at hSw
    go_simp
    all_goals with_reducible rfl
  try simp only [List.getElem_toArray, List.getElem_cons_succ, List.getElem_cons_zero, Act.put, List.setIfInBounds_toArray, List.set_cons_zero, List.set_cons_succ]
  refine wpAnyH_take (i := 3) (v := ?_) rfl (by kernel_rfl) (by kernel_rfl) (by kernel_rfl) (fun _ _ _ h => h) (Or.inl ⟨by rfl, ?_⟩) hHeld ?_
  rotate_left
  · intro w' hSw
    try dsimp only at hSw
    go_simp
    all_goals with_reducible rfl
  try simp only [List.getElem_toArray, List.getElem_cons_succ, List.getElem_cons_zero, Act.put, List.setIfInBounds_toArray, List.set_cons_zero, List.set_cons_succ]
  refine wpAnyH_take (i := 4) (v := ?_) rfl (by kernel_rfl) (by kernel_rfl) (by kernel_rfl) (fun _ _ _ h => h) (Or.inl ⟨by rfl, ?_⟩) hHeld ?_
  rotate_left
  · intro w' hSw
    try dsimp only at hSw
    go_simp
    all_goals with_reducible rfl
  try simp only [List.getElem_toArray, List.getElem_cons_succ, List.getElem_cons_zero, Act.put, List.setIfInBounds_toArray, List.set_cons_zero, List.set_cons_succ]
  refine wpAnyH_take (i := 5) (v := ?_) rfl (by kernel_rfl) (by kernel_rfl) (by kernel_rfl) (fun _ _ _ h => h) (Or.inl ⟨by rfl, ?_⟩) hHeld ?_
  rotate_left
  · intro w' hSw
    try dsimp only at hSw
    go_simp
    all_goals with_reducible rfl
  try simp only [List.getElem_toArray, List.getElem_cons_succ, List.getElem_cons_zero, Act.put, List.setIfInBounds_toArray, List.set_cons_zero, List.set_cons_succ]
  refine wpAnyH_take (i := 6) (v := ?_) rfl (by kernel_rfl) (by kernel_rfl) (by kernel_rfl) (fun _ _ _ h => h) (Or.inl ⟨by rfl, ?_⟩) hHeld ?_
  rotate_left
  · intro w' hSw
    try dsimp only at hSw
    go_simp
    all_goals with_reducible rfl
  try simp only [List.getElem_toArray, List.getElem_cons_succ, List.getElem_cons_zero, Act.put, List.setIfInBounds_toArray, List.set_cons_zero, List.set_cons_succ]
  refine wpAnyH_take (i := 7) (v := ?_) rfl (by kernel_rfl) (by kernel_rfl) (by kernel_rfl) (fun _ _ _ h => h) (Or.inl ⟨by rfl, ?_⟩) hHeld ?_
  rotate_left
  · intro w' hSw
    try dsimp only at hSw
    go_simp
    all_goals with_reducible rfl
  try simp only [List.getElem_toArray, List.getElem_cons_succ, List.getElem_cons_zero, Act.put, List.setIfInBounds_toArray, List.set_cons_zero, List.set_cons_succ]
  refine wpAnyH_take (i := 8) (v := ?_) rfl (by kernel_rfl) (by kernel_rfl) (by kernel_rfl) (fun _ _ _ h => h) (Or.inl ⟨by rfl, ?_⟩) hHeld ?_
  rotate_left
  · intro w' hSw
    try dsimp only at hSw
    go_simp
    all_goals with_reducible rfl
  try simp only [List.getElem_toArray, List.getElem_cons_succ, List.getElem_cons_zero, Act.put, List.setIfInBounds_toArray, List.set_cons_zero, List.set_cons_succ]
  refine wpAnyH_take (i := 9) (v := ?_) rfl (by kernel_rfl) (by kernel_rfl) (by kernel_rfl) (fun _ _ _ h => h) (Or.inl ⟨by rfl, ?_⟩) hHeld ?_
  rotate_left
  · intro w' hSw
    try dsimp only at hSw
    go_simp
    all_goals with_reducible rfl
  try simp only [List.getElem_toArray, List.getElem_cons_succ, List.getElem_cons_zero, Act.put, List.setIfInBounds_toArray, List.set_cons_zero, List.set_cons_succ]
  refine wpAnyH_ready (rs := [10, 15]) (by kernel_rfl) (by simp) ?_
  refine AllReadyH.cons rfl (fun K hK => ?_) (AllReadyH.cons rfl (fun K hK => ?_) AllReadyH.nil)
  · go_simp
    refine (HN.out _).mono ?_
    rintro r w1 ⟨rfl, hb⟩
    refine hK.out _ _ ?_ (fun hHeld => ?_)
    · (try dsimp only)
      exact sk2 hHeld hR hb
    clear hK K
    have hW := hHeld
    refine wpAnyH_take (i := 11) (v := ?_) rfl (by kernel_rfl) (by kernel_rfl) (by kernel_rfl) (fun _ _ _ h => h) (Or.inl ⟨by rfl, ?_⟩) hHeld ?_
    rotate_left
    · intro w' hSw
      try dsimp only at hSw
      go_simp
      all_goals with_reducible rfl
    try simp only [List.getElem_toArray, List.getElem_cons_succ, List.getElem_cons_zero, Act.put, List.setIfInBounds_toArray, List.set_cons_zero, List.set_cons_succ]
    refine wpAnyH_take (i := 12) (v := ?_) rfl (by kernel_rfl) (by kernel_rfl) (by kernel_rfl) (fun _ _ _ h => h) (Or.inl ⟨by rfl, ?_⟩) hHeld ?_
    rotate_left
    · intro w' hSw
      try dsimp only at hSw
      go_simp
      all_goals with_reducible rfl
    try simp only [List.getElem_toArray, List.getElem_cons_succ, List.getElem_cons_zero, Act.put, List.setIfInBounds_toArray, List.set_cons_zero, List.set_cons_succ]
    refine wpAnyH_take (i := 13) (v := ?_) rfl (by kernel_rfl) (by kernel_rfl) (by kernel_rfl) (fun _ _ _ h => h) (Or.inl ⟨by rfl, ?_⟩) hHeld ?_
    rotate_left
    · intro w' hSw
      try dsimp only at hSw
      go_simp
      all_goals with_reducible rfl
    try simp only [List.getElem_toArray, List.getElem_cons_succ, List.getElem_cons_zero, Act.put, List.setIfInBounds_toArray, List.set_cons_zero, List.set_cons_succ]
    refine wpAnyH_take (i := 14) (v := ?_) rfl (by kernel_rfl) (by kernel_rfl) (by kernel_rfl) (fun _ _ _ h => h) (Or.inl ⟨by rfl, ?_⟩) hHeld ?_
    rotate_left
    · intro w' hSw
      try dsimp only at hSw
      go_simp
      all_goals with_reducible rfl
    try simp only [List.getElem_toArray, List.getElem_cons_succ, List.getElem_cons_zero, Act.put, List.setIfInBounds_toArray, List.set_cons_zero, List.set_cons_succ]
    refine wpAnyH_ready (rs := [15]) (by kernel_rfl) (by simp) ?_
    refine AllReadyH.cons rfl (fun K hK => ?_) AllReadyH.nil
    go_simp
    refine hK.out _ _ ?_ (fun hHeld => ?_)
    · (try dsimp only)
      exact sk2 hHeld hR ((Below.refl _ _).alloc (Nat.le_refl _) _)
    clear hK K
    refine wpAnyH_take (i := 16) (v := ?_) rfl (by kernel_rfl) (by kernel_rfl) (by kernel_rfl) (fun _ _ _ h => h) (Or.inl ⟨by rfl, ?_⟩) hHeld ?_
    rotate_left
    · intro w' hSw
      try dsimp only at hSw
      go_simp
      all_goals with_reducible rfl
    try simp only [List.getElem_toArray, List.getElem_cons_succ, List.getElem_cons_zero, Act.put, List.setIfInBounds_toArray, List.set_cons_zero, List.set_cons_succ]
    refine wpAnyH_take (i := 17) (v := ?_) rfl (by kernel_rfl) (by kernel_rfl) (by kernel_rfl) (fun _ _ _ h => h) (Or.inl ⟨by rfl, ?_⟩) hHeld ?_
    rotate_left
    · intro w' hSw
      try dsimp only at hSw
      go_simp
      all_goals with_reducible rfl
    try simp only [List.getElem_toArray, List.getElem_cons_succ, List.getElem_cons_zero, Act.put, List.setIfInBounds_toArray, List.set_cons_zero, List.set_cons_succ]
    refine wpAnyH_ready (rs := [18]) (by kernel_rfl) (by simp) ?_
    refine AllReadyH.cons rfl (fun K hK => ?_) AllReadyH.nil
    go_simp
    refine hK.out _ _ ?_ (fun hHeld => ?_)
    · (try dsimp only)
      exact sk2 hW hR ((Below.refl _ _).alloc (Nat.le_refl _) _)
    clear hK K
    refine wpAnyH_done (by kernel_rfl) ?_ _
    have hX := H.out.next hHeld.2
    have HB := hide hHeld.2
    have xo : (w1.alloc (.cells #[.int .i64 o, .bool false] 92)).cell? ⟨w1.heap.size, 0, none⟩ = some (.int .i64 o) := World.cell?_alloc_new w1 _ 92 0
    have xk : (w1.alloc (.cells #[.int .i64 o, .bool false] 92)).cell? ⟨w1.heap.size, 1, none⟩ = some (.bool false) := World.cell?_alloc_new w1 _ 92 1
    have xl : w1.heap.size < (w1.alloc (.cells #[.int .i64 o, .bool false] 92)).heap.size := by simp
    have xw : w.heap.size ≤ w1.heap.size := hb.size
    have d0 := hX.c0
    have d2 := hX.c2
    have d3 := hX.c3
    have d4 := hX.c4
    have f2 := hX.f 2 (by omega)
    have f3 := hX.f 3 (by omega)
    have f4 := hX.f 4 (by omega)
    have hR9 := hX.hR
    have hR9' : R < w1.heap.size + 1 := by simpa [World.setCell] using hR9
    have nO := hX.nO
    have xR : ¬ w1.heap.size = R := by omega
    have xR' : ¬ R = w1.heap.size := by omega
    have xG : ¬ (Value.slice ga n gc).ownBlock = some (w1.heap.size) := fun e => by have := H.out.g.lt _ e; omega
    have HX := hide hX
    have HH := hide hHeld
    clear hX c0 c1 c4 c5 c6 hHeld
    go_wp2_with (go_quiet (fail))
    go_region_law ((refine step_sl_app rfl (.tmp 110) (.tmp 115) 79 rfl Try.underlying79 (.slice ga n gc) n ⟨w1.heap.size + 1, 0, none⟩ 1 wk (by first | (simp [Act.eval]; done) | simp [Act.eval, Act.put]) (HX.out.g.next (below_da _ _ _)) (by omega) (by first | (simp [Act.eval]; done) | simp [Act.eval, Act.put]) (by simp [go_sem]) ?_; intro g1 o1 p1 w3 q1 f1 t1; have RC := HX.out.rc (below_da _ _ _) f1; have x3 : w3.cell? ⟨w1.heap.size, 0, none⟩ = some (.int .i64 o) := (f1.cell (Nat.lt_of_lt_of_le xl (below_da _ _ _).size) xG).trans (((below_da _ _ _).cell (p := ⟨w1.heap.size, 0, none⟩) xl).trans xo); have r2 := RC.c2; have r3 := RC.c3; have r4 := RC.c4; have y2 := RC.f 2 (by omega); have y3 := RC.f 3 (by omega); have y4 := RC.f 4 (by omega); have hR3 := RC.hR; have xl3 : w1.heap.size < w3.heap.size := Nat.lt_of_lt_of_le (Nat.lt_of_lt_of_le xl (below_da _ _ _).size) f1.size; have HRC := hide RC; have Q1 := hide q1; have F1 := hide f1; have T1 := hide t1; clear RC q1 f1 t1))
    all_goals
      go_wp2_with fail
      have x3d : ((w3.setCell ⟨R, 2, none⟩ (.slice (some ⟨g1, o1, none⟩) (n + 1) p1)).drew).cell? ⟨w1.heap.size, 0, none⟩ = some (.int .i64 o) := (setCell_cell_other (by intro e; injection e; omega)).trans x3
      go_region_law ((refine step_sl_app rfl (.tmp 123) (.tmp 126) 79 rfl Try.underlying79 (.slice oa n oc) n ⟨w3.heap.size, 0, none⟩ 1 o (by first | (simp [Act.eval]; done) | simp [Act.eval, Act.put]) ((HRC.out.o.fr (rk_fr w3 R 2 _) (fun k hk e => nO (by rw [hk, e]))).next (below_da2 _ _)) (by omega) (by first | (simp [Act.eval]; done) | simp [Act.eval, Act.put]) (by simp [go_sem]) ?_; intro g2 o2 p2 w4 q2 f2' t2; have RR := HRC.out.rc2 nO _ (below_sc (below_da2 _ _)) f2'; have s3 := RR.1; have s4 := RR.2.1; have u3 := RR.2.2.1; have u4 := RR.2.2.2; have E := hide (rlearn_end (w := w) (G := .slice ga n gc) (O := .slice oa n oc) HX.out rfl (by omega) (Fr.of_below HB.out) (fun _ e => .inl e) (below_da _ _ _) Q1.out F1.out rfl T1.out (below_sc (below_da2 _ _)) q2 f2' rfl t2); clear q2 f2' t2))
      all_goals
        go_wp2
        go_ret3
        exact ⟨⟨_, _, _, rfl⟩, E.out⟩
  · go_simp
    refine hK.out _ _ ?_ (fun hHeld => ?_)
    · (try dsimp only)
      exact sk2 hHeld hR ((Below.refl _ _).alloc (Nat.le_refl _) _)
    clear hK K
    refine wpAnyH_ready (rs := [10]) (by kernel_rfl) (by simp) ?_
    refine AllReadyH.cons rfl (fun K hK => ?_) AllReadyH.nil
    go_simp
    refine (HN.out _).mono ?_
    rintro r w1 ⟨rfl, hb⟩
    have lB : w.heap.size < w1.heap.size := Nat.lt_of_lt_of_le (by simp) hb.size
    have e0 : w1.cell? ⟨w.heap.size, 0, none⟩ = some (.int .i64 0) := (hb.cell (p := ⟨w.heap.size, 0, none⟩) (by simp)).trans (World.cell?_alloc_new w.drew _ 92 0)
    have e1 : w1.cell? ⟨w.heap.size, 1, none⟩ = some (.bool false) := (hb.cell (p := ⟨w.heap.size, 1, none⟩) (by simp)).trans (World.cell?_alloc_new w.drew _ 92 1)
    have e2 : w1.frozen? ⟨w.heap.size, 0, none⟩ = false := (hb.frozen (p := ⟨w.heap.size, 0, none⟩) (by simp)).trans (World.frozen?_alloc_new w.drew _ 92 0)
    have e3 : w1.frozen? ⟨w.heap.size, 1, none⟩ = false := (hb.frozen (p := ⟨w.heap.size, 1, none⟩) (by simp)).trans (World.frozen?_alloc_new w.drew _ 92 1)
    refine hK.out _ _ ?_ (fun hHeld => ?_)
    · (try dsimp only)
      exact sk2 hHeld hR hb
    clear hK K
    refine wpAnyH_take (i := 11) (v := ?_) rfl (by kernel_rfl) (by kernel_rfl) (by kernel_rfl) (fun _ _ _ h => h) (Or.inl ⟨by rfl, ?_⟩) hHeld ?_
    rotate_left
    · intro w' hSw
      try dsimp only at hSw
      go_simp
      all_goals with_reducible rfl
    try simp only [List.getElem_toArray, List.getElem_cons_succ, List.getElem_cons_zero, Act.put, List.setIfInBounds_toArray, List.set_cons_zero, List.set_cons_succ]
    refine wpAnyH_take (i := 12) (v := ?_) rfl (by kernel_rfl) (by kernel_rfl) (by kernel_rfl) (fun _ _ _ h => h) (Or.inl ⟨by rfl, ?_⟩) hHeld ?_
    rotate_left
    · intro w' hSw
      try dsimp only at hSw
      go_simp
      all_goals with_reducible rfl
    try simp only [List.getElem_toArray, List.getElem_cons_succ, List.getElem_cons_zero, Act.put, List.setIfInBounds_toArray, List.set_cons_zero, List.set_cons_succ]
    refine wpAnyH_take (i := 13) (v := ?_) rfl (by kernel_rfl) (by kernel_rfl) (by kernel_rfl) (fun _ _ _ h => h) (Or.inl ⟨by rfl, ?_⟩) hHeld ?_
    rotate_left
    · intro w' hSw
      try dsimp only at hSw
      go_simp
      all_goals with_reducible rfl
    try simp only [List.getElem_toArray, List.getElem_cons_succ, List.getElem_cons_zero, Act.put, List.setIfInBounds_toArray, List.set_cons_zero, List.set_cons_succ]
    refine wpAnyH_take (i := 14) (v := ?_) rfl (by kernel_rfl) (by kernel_rfl) (by kernel_rfl) (fun _ _ _ h => h) (Or.inl ⟨by rfl, ?_⟩) hHeld ?_
    rotate_left
    · intro w' hSw
      try dsimp only at hSw
      go_simp
      all_goals with_reducible rfl
    try simp only [List.getElem_toArray, List.getElem_cons_succ, List.getElem_cons_zero, Act.put, List.setIfInBounds_toArray, List.set_cons_zero, List.set_cons_succ]
    refine wpAnyH_take (i := 16) (v := ?_) rfl (by kernel_rfl) (by kernel_rfl) (by kernel_rfl) (fun _ _ _ h => h) (Or.inl ⟨by rfl, ?_⟩) hHeld ?_
    rotate_left
    · intro w' hSw
      try dsimp only at hSw
      go_simp
      all_goals with_reducible rfl
    try simp only [List.getElem_toArray, List.getElem_cons_succ, List.getElem_cons_zero, Act.put, List.setIfInBounds_toArray, List.set_cons_zero, List.set_cons_succ]
    refine wpAnyH_take (i := 17) (v := ?_) rfl (by kernel_rfl) (by kernel_rfl) (by kernel_rfl) (fun _ _ _ h => h) (Or.inl ⟨by rfl, ?_⟩) hHeld ?_
    rotate_left
    · intro w' hSw
      try dsimp only at hSw
      go_simp
      all_goals with_reducible rfl
    try simp only [List.getElem_toArray, List.getElem_cons_succ, List.getElem_cons_zero, Act.put, List.setIfInBounds_toArray, List.set_cons_zero, List.set_cons_succ]
    refine wpAnyH_ready (rs := [18]) (by kernel_rfl) (by simp) ?_
    refine AllReadyH.cons rfl (fun K hK => ?_) AllReadyH.nil
    go_simp
    refine hK.out _ _ ?_ (fun hHeld => ?_)
    · (try dsimp only)
      exact skB hHeld hR
    clear hK K
    refine wpAnyH_done (by kernel_rfl) ?_ _
    have hX := H.out.next hHeld.2
    have HB := hide hHeld.2
    have xo : ((w1.setCell ⟨w.heap.size, 0, none⟩ (.int .i64 o)).setCell ⟨w.heap.size, 1, none⟩ (.bool false)).cell? ⟨w.heap.size, 0, none⟩ = some (.int .i64 o) := (setCell_cell_other (by intro e; injection e; omega)).trans (World.cell?_setCell_same' _ _ _ (by rw [e0]; rfl))
    have xk : ((w1.setCell ⟨w.heap.size, 0, none⟩ (.int .i64 o)).setCell ⟨w.heap.size, 1, none⟩ (.bool false)).cell? ⟨w.heap.size, 1, none⟩ = some (.bool false) := World.cell?_setCell_same' _ _ _ (by rw [setCell_cell_other (by intro e; injection e; omega), e1]; rfl)
    have xl : w.heap.size < ((w1.setCell ⟨w.heap.size, 0, none⟩ (.int .i64 o)).setCell ⟨w.heap.size, 1, none⟩ (.bool false)).heap.size := by simpa [World.setCell] using lB
    have xw : w.heap.size ≤ w.heap.size := Nat.le_refl _
    have d0 := hX.c0
    have d2 := hX.c2
    have d3 := hX.c3
    have d4 := hX.c4
    have f2 := hX.f 2 (by omega)
    have f3 := hX.f 3 (by omega)
    have f4 := hX.f 4 (by omega)
    have hR9 := hX.hR
    have hR9' : R < w1.heap.size := by simpa [World.setCell] using hR9
    have nO := hX.nO
    have xR : ¬ w.heap.size = R := by omega
    have xR' : ¬ R = w.heap.size := by omega
    have xG : ¬ (Value.slice ga n gc).ownBlock = some (w.heap.size) := fun e => by have := H.out.g.lt _ e; omega
    have HX := hide hX
    have HH := hide hHeld
    clear hX c0 c1 c4 c5 c6 hHeld
    go_wp2_with (go_quiet (fail))
    go_region_law ((refine step_sl_app rfl (.tmp 110) (.tmp 115) 79 rfl Try.underlying79 (.slice ga n gc) n ⟨w1.heap.size, 0, none⟩ 1 wk (by first | (simp [Act.eval]; done) | simp [Act.eval, Act.put]) (HX.out.g.next (below_da _ _ _)) (by omega) (by first | (simp [Act.eval]; done) | simp [Act.eval, Act.put]) (by simp [go_sem]) ?_; intro g1 o1 p1 w3 q1 f1 t1; have RC := HX.out.rc (below_da _ _ _) f1; have x3 : w3.cell? ⟨w.heap.size, 0, none⟩ = some (.int .i64 o) := (f1.cell (Nat.lt_of_lt_of_le xl (below_da _ _ _).size) xG).trans (((below_da _ _ _).cell (p := ⟨w.heap.size, 0, none⟩) xl).trans xo); have r2 := RC.c2; have r3 := RC.c3; have r4 := RC.c4; have y2 := RC.f 2 (by omega); have y3 := RC.f 3 (by omega); have y4 := RC.f 4 (by omega); have hR3 := RC.hR; have xl3 : w.heap.size < w3.heap.size := Nat.lt_of_lt_of_le (Nat.lt_of_lt_of_le xl (below_da _ _ _).size) f1.size; have HRC := hide RC; have Q1 := hide q1; have F1 := hide f1; have T1 := hide t1; clear RC q1 f1 t1))
    all_goals
      go_wp2_with fail
      have x3d : ((w3.setCell ⟨R, 2, none⟩ (.slice (some ⟨g1, o1, none⟩) (n + 1) p1)).drew).cell? ⟨w.heap.size, 0, none⟩ = some (.int .i64 o) := (setCell_cell_other (by intro e; injection e; omega)).trans x3
      go_region_law ((refine step_sl_app rfl (.tmp 123) (.tmp 126) 79 rfl Try.underlying79 (.slice oa n oc) n ⟨w3.heap.size, 0, none⟩ 1 o (by first | (simp [Act.eval]; done) | simp [Act.eval, Act.put]) ((HRC.out.o.fr (rk_fr w3 R 2 _) (fun k hk e => nO (by rw [hk, e]))).next (below_da2 _ _)) (by omega) (by first | (simp [Act.eval]; done) | simp [Act.eval, Act.put]) (by simp [go_sem]) ?_; intro g2 o2 p2 w4 q2 f2' t2; have RR := HRC.out.rc2 nO _ (below_sc (below_da2 _ _)) f2'; have s3 := RR.1; have s4 := RR.2.1; have u3 := RR.2.2.1; have u4 := RR.2.2.2; have E := hide (rlearn_end (w := w) (G := .slice ga n gc) (O := .slice oa n oc) HX.out rfl (by omega) (Fr.of_below HB.out) (fun _ e => .inl e) (below_da _ _ _) Q1.out F1.out rfl T1.out (below_sc (below_da2 _ _)) q2 f2' rfl t2); clear q2 f2' t2))
      all_goals
        go_wp2
        go_ret3
        exact ⟨⟨_, _, _, rfl⟩, E.out⟩
end
end Go.Proofs.Ytfikiophfphmbaa
