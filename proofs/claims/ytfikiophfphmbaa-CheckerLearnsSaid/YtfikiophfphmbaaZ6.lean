/- CheckerLearns, walked. -/
import Derived.Test.YtfikiophfphmbaaY6
import Derived.Test.YtfikiophfphmbaaZ3
import Derived.Test.YtfikiophfphmbaaZ5
import Derived.Test.YtfikiophfphmbaaZ7
import Derived.Test.YtfikiophfphmbaaE1
import Derived.Test.YtfikiophfphmbaaN4
import Derived.Test.YtfikiophfphmbaaN3
import Derived.WalkKit
import Derived.WalkSpells
import Derived.ProofKit
import Derived.Outline
import Derived.Handy
import Derived.RowKit3
import Derived.BigQuiet
import Derived.Deep.QuietTactic
import Derived.Deep.RegionHeld3
import Derived.Deep.Draws
import Derived.Deep.RegionLaw
import Derived.RegionTactic
import Derived.BigRegion
import Derived.IntWalk
import Derived.LoopTactic
import Derived.OwnWalk
import Derived.Laws.AppendOwn
import Derived.Laws.OwnMore
import Derived.Laws.MakeOwn
import Derived.Laws.Pointers
import Derived.Maps.AppendAt
import Derived.Deep.AppendLies
import Derived.Below
namespace Go.Proofs.Ytfikiophfphmbaa
open Go.RowKit
set_option linter.unusedVariables false
set_option maxRecDepth 100000

set_option maxHeartbeats 4000000 in
theorem learns_out (a b : Int) (av ev : Option Addr) (L c Le ec : Nat) (h : ¬ ((1 ≤ a ∧ a ≤ 8 ∧ 1 ≤ b ∧ b ≤ 16) ∧ L ≤ 80)) (w : World) : Calls Try.prog 4 #[.agg #[.int .i64 a, .int .i64 b], .slice av L c, .slice ev Le ec] w fun r w' => r = .returned (.bool true) ∧ Below w.heap.size w w' := by
  by_cases h1 : 1 ≤ a ∧ a ≤ 8 ∧ 1 ≤ b ∧ b ≤ 16
  · have hm := hide (decide_eq_true h1)
    have h2 : ¬ L ≤ 80 := fun e => h ⟨h1, e⟩
    have hf := hide (decide_eq_false h2)
    clear h h1 h2
    go_enter Try.func4, Try.ntmps4
    go_wp2_with fail
    refine (mayb a b true hm.out _).mono ?_
    rintro r w1 ⟨rfl, rfl⟩
    go_wp2_with fail
    refine (fewb av L c false hf.out _).mono ?_
    rintro r w1 ⟨rfl, rfl⟩
    go_wp2_with fail
    refine (awake_ok _).mono ?_
    rintro r w1 ⟨rfl, hb⟩
    go_wp2
    go_ret
    exact ⟨rfl, below_alloc hb⟩
  · have hm := hide (decide_eq_false h1)
    clear h h1
    go_enter Try.func4, Try.ntmps4
    go_wp2_with fail
    refine (mayb a b false hm.out _).mono ?_
    rintro r w1 ⟨rfl, rfl⟩
    go_wp2_with fail
    refine (awake_ok _).mono ?_
    rintro r w1 ⟨rfl, hb⟩
    go_wp2
    go_ret
    exact ⟨rfl, below_alloc hb⟩
def CvE (A : Nat → Prop) (w0 w : World) (P en gs : Nat) : Prop := ∃ ws st gr at_ v ks, Ck w P ws st gr at_ en gs v ks ∧ Inv gs ws gr ks ∧ (∀ b, Ck.S P v b → ¬ A b) ∧ Fr (fun b => ¬ A b) w0 w
theorem cv_of_tv {A : Nat → Prop} {w0 w : World} {P en gs R : Nat} (h : TvE A w0 w P en gs R) : CvE A w0 w P en gs := by
  obtain ⟨ws, st, gr, at_, v, ks, G, O, n, wk, ra, rst, h⟩ := h
  exact ⟨ws, st, gr, at_, v, ks, h.k, h.i, h.lk, h.bel⟩
theorem EntIn.next {w w' : World} {av : Option Addr} {L : Nat} {X : Nat → Int} {B : Nat → Bool} (h : EntIn w av L X B) (hb : Below w.heap.size w w') : EntIn w' av L X B := by
  rcases h with h | ⟨b, off, h1, h2, h3⟩
  · exact .inl h
  · exact .inr ⟨b, off, h1, Nat.lt_of_lt_of_le h2 hb.size, fun i hi => ⟨cell_next hb h2 (h3 i hi).1, cell_next hb h2 (h3 i hi).2⟩⟩
def L1Rel (A : Nat → Prop) (w0 : World) (P en gs L : Nat) (v11 : Value) (wr : World) : Prop := ∃ k : Nat, k ≤ L ∧ v11 = .int .i64 k ∧ CvE A w0 wr P en gs
def SetRel (T E gs Le : Nat) (w5 : World) (v15 : Value) (wr : World) : Prop := ∃ k : Nat, k ≤ Le ∧ v15 = .int .i64 k ∧ ∃ o l, (∀ j, 0 ≤ o j ∧ o j ≤ 4) ∧ Tb wr T E gs o l ∧ Fr (fun b => b = E) w5 wr
def GRel (A : Nat → Prop) (w6 : World) (P en gs T E : Nat) (o : Nat → Int) (l : Nat → Bool) (v16 : Value) (wr : World) : Prop := ∃ g : Nat, g ≤ gs ∧ v16 = .int .i64 g ∧ ∃ st gr at_ v ks, Gw A w6 wr P en gs T E o l false st gr at_ v ks ∧ ∀ x ∈ ks, x.1 < (g : Int)
theorem upd_in {o : Nat → Int} (ho : ∀ j, 0 ≤ o j ∧ o j ≤ 4) {x : Int} (hx : 0 ≤ x ∧ x ≤ 4) (k : Nat) : ∀ j, 0 ≤ upd o k x j ∧ upd o k x j ≤ 4 := by
  intro j
  unfold upd
  split
  · exact hx
  · exact ho j
theorem tv_start {A : Nat → Prop} {w0 w w' : World} {P en gs R : Nat} {ws st : Bool} {gr at_ : Int} {v : Value} {ks : List (Int × Int)} (k : Ck w P ws st gr at_ en gs v ks) (i : Inv gs ws gr ks) (lk : ∀ b, Ck.S P v b → ¬ A b) (al : ∀ b, A b → b < w0.heap.size) (bel : Fr (fun b => ¬ A b) w0 w) (hb : Below w.heap.size w w') (r : Rk w' R en gs (.slice none 0 0) (.slice none 0 0) 0 (-1) 0 false) (hR : w.heap.size ≤ R) : Tv A w0 w' P en gs ws st gr at_ v ks R (.slice none 0 0) (.slice none 0 0) 0 (-1) 0 false := by
  refine ⟨k.next hb, i, r, fun b e e2 => ?_, lk, fun b e a => ?_, al, bel.trans (Fr.of_below (S := fun _ => False) hb) (fun _ _ e => e.elim)⟩
  · have := k.lt b e
    rcases e2 with e2 | e2 | e2
    · omega
    · cases e2
    · cases e2
  · have := al b a
    have := bel.size
    rcases e with e | e | e
    · omega
    · cases e
    · cases e
set_option maxHeartbeats 16000000 in
theorem learns_in (en gs : Nat) (he1 : 1 ≤ en) (he8 : en ≤ 8) (hg1 : 1 ≤ gs) (hg16 : gs ≤ 16) (av ev : Option Addr) (L c Le ec : Nat) (hL : L ≤ 80) (hLe : Le ≤ maxLen) (A B C D X : Nat → Int) (F : Nat → Bool) (w : World) (hl : OpsIn w av L A B C D) (hen : EntIn w ev Le X F) : Calls Try.prog 4 #[.agg #[.int .i64 en, .int .i64 gs], .slice av L c, .slice ev Le ec] w fun r w' => r = .returned (.bool true) ∧ Below w.heap.size w w' := by
  have hm := hide (show decide (1 ≤ (en : Int) ∧ (en : Int) ≤ 8 ∧ 1 ≤ (gs : Int) ∧ (gs : Int) ≤ 16) = true by simp; omega)
  have hf := hide (decide_eq_true hL)
  have HLn := hide hl
  have HEn := hide hen
  obtain ⟨mn, hmn⟩ : ∃ mn : Nat, (gs + 3) / 4 = mn := ⟨_, rfl⟩
  have HM := hide hmn
  have hLe' : (Le : Int) ≤ 9223372036854775807 := by unfold maxLen at hLe; omega
  clear hl hen hmn hLe
  go_enter Try.func4, Try.ntmps4
  go_wp2_with fail
  refine (mayb en gs true hm.out _).mono ?_
  rintro r w1 ⟨rfl, rfl⟩
  go_wp2_with fail
  refine (fewb av L c true hf.out _).mono ?_
  rintro r w1 ⟨rfl, rfl⟩
  go_wp2_with fail
  refine (new_yes en gs he1 he8 hg1 hg16 _).mono ?_
  rintro r w1 ⟨P, rfl, h1, hP, b1⟩
  have a0 : w1.cell? ⟨w.heap.size, 0, none⟩ = some (.int .i64 en) := cell_next b1 (by simp) (World.cell?_alloc_new w _ 22 0)
  have a1 : w1.cell? ⟨w.heap.size, 1, none⟩ = some (.int .i64 gs) := cell_next b1 (by simp) (World.cell?_alloc_new w _ 22 1)
  have H1 := hide h1
  have B1 := hide (below_alloc b1)
  have hP' : w.heap.size < P := by simp at hP; omega
  have hPl := h1.hP
  clear h1 b1 hP
  go_wp2_with fail
  refine (tnew_yes gs hg1 hg16 _).mono ?_
  rintro r w2 ⟨T, E, rfl, hT0, hE0, hTb, b2⟩
  have B2 := hide (below_step B1.out B1.out.size b2)
  have q0 := hide (cell_next b2 (by omega) a0)
  have q1 := hide (cell_next b2 (by omega) a1)
  have K2 := hide (H1.out.next b2)
  have T2 := hide hTb
  have s2 : w1.heap.size ≤ w2.heap.size := b2.size
  have lw0 : w.heap.size < w2.heap.size := by omega
  have TE0 := hide (show w.heap.size < T ∧ w.heap.size < E from ⟨by omega, by omega⟩)
  have TP := hide (show T ≠ P ∧ E ≠ P from ⟨by omega, by omega⟩)
  clear b2 a0 a1 hTb
  obtain ⟨AA, hAA⟩ : ∃ AA : Nat → Prop, AA = fun b => b < w2.heap.size ∧ b ≠ P := ⟨_, rfl⟩
  have HAL := hide (show ∀ b, AA b → b < w2.heap.size from by (subst hAA; exact fun b a => a.1))
  have HAA := hide (show ∀ b, b < w2.heap.size → b ≠ P → AA b from by (subst hAA; exact fun b h1 h2 => ⟨h1, h2⟩))
  have CV := hide (show CvE AA w2 w2 P en gs from ⟨_, _, _, _, _, _, K2.out, ⟨fun e => (by cases e), List.Pairwise.nil, fun x hx => by cases hx⟩, by (subst hAA; rintro b (rfl | e) ⟨h1, h2⟩ <;> first | exact h2 rfl | cases e), Fr.refl _ _⟩)
  have abox := HAA.out w.heap.size lw0 (by omega)
  clear hAA
  go_wp2
  go_loopw [11] (fun v11 wr => L1Rel AA w2 P en gs L v11 wr) (fun v11 _ => L - (intOf v11).toNat)
  case atStart => exact ⟨0, Nat.zero_le _, rfl, CV.out⟩
  case round =>
    obtain ⟨k, hk, rfl, ws, st, gr, at_, v, ks, kk, ki, klk, kf⟩ := hrel
    have HK := hide kk
    have HI := hide ki
    have HLK := hide klk
    have HF := hide kf
    have y0 := (kf.cell lw0 (fun n => n abox)).trans q0.out
    have y1 := (kf.cell lw0 (fun n => n abox)).trans q1.out
    have lb : w.heap.size < wr.heap.size := Nat.lt_of_lt_of_le lw0 kf.size
    clear kk ki klk kf
    by_cases hlt : k < L
    · rcases HLn.out with h0 | ⟨ob, oo, rfl, hol, hop⟩
      · omega
      · obtain ⟨o0, o1, o2, o3⟩ := hop k hlt
        clear hop
        have low0 : ob < w2.heap.size := by omega
        have aop := HAA.out ob low0 (by omega)
        have lo : ob < wr.heap.size := Nat.lt_of_lt_of_le low0 HF.out.size
        have p0 := hide (cell_next B2.out hol o0)
        have p1 := hide (cell_next B2.out hol o1)
        have p2 := hide (cell_next B2.out hol o2)
        have p3 := hide (cell_next B2.out hol o3)
        have x0 := (HF.out.cell low0 (fun n => n aop)).trans p0.out
        have x1 := (HF.out.cell low0 (fun n => n aop)).trans p1.out
        have x2 := (HF.out.cell low0 (fun n => n aop)).trans p2.out
        have x3 := (HF.out.cell low0 (fun n => n aop)).trans p3.out
        clear o0 o1 o2 o3
        go_wp2_with fail
        refine wp_region_held_drew (S := fun W => (W.cell? ⟨w.heap.size, 0, none⟩ = some (.int .i64 en) ∧ W.cell? ⟨w.heap.size, 1, none⟩ = some (.int .i64 gs)) ∧ (W.cell? ⟨ob, oo + k * 4, none⟩ = some (.int .i64 (A k)) ∧ W.cell? ⟨ob, oo + k * 4 + 1, none⟩ = some (.int .i64 (B k))) ∧ W.cell? ⟨ob, oo + k * 4 + 2, none⟩ = some (.int .i64 (C k)) ∧ W.cell? ⟨ob, oo + k * 4 + 3, none⟩ = some (.int .i64 (D k))) (by kernel_rfl) ?_ (fun hHeld => ?_)
        · exact ⟨⟨y0, y1⟩, ⟨x0, x1⟩, x2, x3⟩
        refine wpAnyH_take (i := 0) (v := ?_) rfl (by kernel_rfl) (by kernel_rfl) (by kernel_rfl) (fun _ _ _ h => h) (Or.inl ⟨by rfl, ?_⟩) hHeld ?_
        rotate_left
        · intro w' hSw
          try dsimp only at hSw
          go_simp
          all_goals with_reducible rfl
        try simp only [List.getElem_toArray, List.getElem_cons_zero, Act.put, List.setIfInBounds_toArray, List.set_cons_zero, List.set_cons_succ]
        refine wpAnyH_take (i := 1) (v := ?_) rfl (by kernel_rfl) (by kernel_rfl) (by kernel_rfl) (fun _ _ _ h => h) (Or.inl ⟨by rfl, ?_⟩) hHeld ?_
        rotate_left
        · intro w' hSw
          try dsimp only at hSw
          go_simp
          all_goals with_reducible rfl
        try simp only [List.getElem_toArray, List.getElem_cons_succ, List.getElem_cons_zero, Act.put, List.setIfInBounds_toArray, List.set_cons_zero, List.set_cons_succ]
        refine wpAnyH_take (i := 2) (v := ?_) rfl (by kernel_rfl) (by kernel_rfl) (by kernel_rfl) (fun _ _ _ h => h) (Or.inl ⟨by rfl, ?_⟩) hHeld ?_
        rotate_left
        · intro w' hSw
          try dsimp only at hSw
          go_simp
          all_goals with_reducible rfl
        try simp only [List.getElem_toArray, List.getElem_cons_succ, List.getElem_cons_zero, Act.put, List.setIfInBounds_toArray, List.set_cons_zero, List.set_cons_succ]
        refine wpAnyH_take (i := 3) (v := ?_) rfl (by kernel_rfl) (by kernel_rfl) (by kernel_rfl) (fun _ _ _ h => h) (Or.inl ⟨by rfl, ?_⟩) hHeld ?_
        rotate_left
        · intro w' hSw
          try dsimp only at hSw
          go_simp
          all_goals with_reducible rfl
        try simp only [List.getElem_toArray, List.getElem_cons_succ, List.getElem_cons_zero, Act.put, List.setIfInBounds_toArray, List.set_cons_zero, List.set_cons_succ]
        refine wpAnyH_take (i := 4) (v := ?_) rfl (by kernel_rfl) (by kernel_rfl) (by kernel_rfl) (fun _ _ _ h => h) (Or.inl ⟨by rfl, ?_⟩) hHeld ?_
        rotate_left
        · intro w' hSw
          try dsimp only at hSw
          go_simp
          all_goals with_reducible rfl
        try simp only [List.getElem_toArray, List.getElem_cons_succ, List.getElem_cons_zero, Act.put, List.setIfInBounds_toArray, List.set_cons_zero, List.set_cons_succ]
        refine wpAnyH_take (i := 6) (v := ?_) rfl (by kernel_rfl) (by kernel_rfl) (by kernel_rfl) (fun _ _ _ h => h) (Or.inl ⟨by rfl, ?_⟩) hHeld ?_
        rotate_left
        · intro w' hSw
          try dsimp only at hSw
          go_simp
          all_goals with_reducible rfl
        try simp only [List.getElem_toArray, List.getElem_cons_succ, List.getElem_cons_zero, Act.put, List.setIfInBounds_toArray, List.set_cons_zero, List.set_cons_succ]
        refine wpAnyH_take (i := 7) (v := ?_) rfl (by kernel_rfl) (by kernel_rfl) (by kernel_rfl) (fun _ _ _ h => h) (Or.inl ⟨by rfl, ?_⟩) hHeld ?_
        rotate_left
        · intro w' hSw
          try dsimp only at hSw
          go_simp
          all_goals with_reducible rfl
        try simp only [List.getElem_toArray, List.getElem_cons_succ, List.getElem_cons_zero, Act.put, List.setIfInBounds_toArray, List.set_cons_zero, List.set_cons_succ]
        refine wpAnyH_take (i := 8) (v := ?_) rfl (by kernel_rfl) (by kernel_rfl) (by kernel_rfl) (fun _ _ _ h => h) (Or.inl ⟨by rfl, ?_⟩) hHeld ?_
        rotate_left
        · intro w' hSw
          try dsimp only at hSw
          go_simp
          all_goals with_reducible rfl
        try simp only [List.getElem_toArray, List.getElem_cons_succ, List.getElem_cons_zero, Act.put, List.setIfInBounds_toArray, List.set_cons_zero, List.set_cons_succ]
        refine wpAnyH_take (i := 9) (v := ?_) rfl (by kernel_rfl) (by kernel_rfl) (by kernel_rfl) (fun _ _ _ h => h) (Or.inl ⟨by rfl, ?_⟩) hHeld ?_
        rotate_left
        · intro w' hSw
          try dsimp only at hSw
          go_simp
          all_goals with_reducible rfl
        try simp only [List.getElem_toArray, List.getElem_cons_succ, List.getElem_cons_zero, Act.put, List.setIfInBounds_toArray, List.set_cons_zero, List.set_cons_succ]
        refine wpAnyH_ready (rs := [5]) (by kernel_rfl) (by simp) ?_
        refine AllReadyH.cons rfl (fun K hK => ?_) AllReadyH.nil
        go_simp
        refine (rnew_yes en gs he1 he8 hg16 _).mono ?_
        rintro r w4 ⟨R, rfl, h4, hR, b4⟩
        refine hK.out _ _ ?_ (fun hHeld => ?_)
        · (try dsimp only)
          exact ⟨⟨cell_next b4 lb y0, cell_next b4 lb y1⟩, ⟨cell_next b4 lo x0, cell_next b4 lo x1⟩, cell_next b4 lo x2, cell_next b4 lo x3⟩
        clear hK K
        refine wpAnyH_ready (rs := [10]) (by kernel_rfl) (by simp) ?_
        refine AllReadyH.cons rfl (fun K hK => ?_) AllReadyH.nil
        go_simp
        refine (doev_any he1 (A k) (B k) (C k) (D k) (tv_start HK.out HI.out HLK.out HAL.out HF.out (below_step (below_drew0 (Below.refl _ _)) (Nat.le_refl _) b4) h4 hR)).mono ?_
        rintro r w5 ⟨⟨bb, rfl⟩, tv⟩
        refine hK.out _ _ ?_ (fun hHeld => ?_)
        · (try dsimp only)
          obtain ⟨_, _, _, _, _, _, _, _, _, _, _, _, hT5⟩ := tv
          exact ⟨⟨(hT5.bel.cell lw0 (fun n => n abox)).trans q0.out, (hT5.bel.cell lw0 (fun n => n abox)).trans q1.out⟩, ⟨(hT5.bel.cell low0 (fun n => n aop)).trans p0.out, (hT5.bel.cell low0 (fun n => n aop)).trans p1.out⟩, (hT5.bel.cell low0 (fun n => n aop)).trans p2.out, (hT5.bel.cell low0 (fun n => n aop)).trans p3.out⟩
        clear hK K
        refine wpAnyH_done (by kernel_rfl) ?_ _
        have CV5 := hide (cv_of_tv tv)
        clear tv hHeld
        go_wp2
        go_roundw
        case rel => exact ⟨k + 1, by omega, int_eq (by omega), CV5.out⟩
        case measure => simp [intOf]; omega
    · cases ws
      · go_wp2_with fail
        refine (walking_no _ HK.out).mono ?_
        rintro r w4 ⟨rfl, hb4⟩
        have K4 := hide (HK.out.next hb4)
        have F4 := hide (HF.out.trans (Fr.of_below (S := fun _ => False) hb4) (fun _ _ e => e.elim))
        clear hb4 y0 y1
        go_wp2_with fail
        refine (drop_every _ K4.out).mono ?_
        rintro r w5 ⟨⟨dn, rfl⟩, v5, k5, f5, s5⟩
        have F5 := hide (F4.out.trans f5 (fun b _ e => HLK.out b e))
        have CK5 := hide k5
        have LV := hide (show ∀ b, Ck.S P v5 b → ¬ AA b from fun b e => HLK.out b (e.imp id (fun q => by rw [← s5]; exact q)))
        have hwl : w.heap.size < w5.heap.size := Nat.lt_of_lt_of_le lw0 F5.out.size
        have LW5 := hide hwl
        have BX5 := hide ((F5.out.cell lw0 (fun n => n abox)).trans q1.out)
        have b1 := BX5.out
        have NB5 := hide (show ¬ Ck.S P v5 w.heap.size from fun e => LV.out _ e abox)
        have NT5 := hide (show ¬ Ck.S P v5 T from fun e => LV.out _ e (HAA.out T T2.out.1 TP.out.1))
        have NE5 := hide (show ¬ Ck.S P v5 E from fun e => LV.out _ e (HAA.out E T2.out.2.1 TP.out.2))
        have LK5 := hide (show ∀ b, Ck.S P v5 b → w.heap.size ≤ b from fun b e => Nat.le_of_not_lt (fun hh => LV.out b e (HAA.out b (by omega) (by omega))))
        have TB5 := hide (T2.out.fr F5.out (fun n => n (HAA.out T T2.out.1 TP.out.1)) (fun n => n (HAA.out E T2.out.2.1 TP.out.2)))
        have BEL5 := hide ((B2.out).trans (F5.out.below (B2.out).size (fun i hi e => e (HAA.out i (by omega) (by omega)))))
        have EN5 := hide (HEn.out.next BEL5.out)
        clear k5 f5 s5
        go_wp2
        go_loopw [15] (fun v15 wr => SetRel T E gs Le w5 v15 wr) (fun v15 _ => Le - (intOf v15).toNat)
        case atStart => exact ⟨0, Nat.zero_le _, rfl, _, _, fun j => ⟨Int.le_refl _, by decide⟩, TB5.out, Fr.refl _ _⟩
        case round =>
          obtain ⟨k, hk, rfl, o, l, ho, hT, hF⟩ := hrel
          have b1 := (hF.cell LW5.out (by have := TE0.out.2; omega)).trans BX5.out
          by_cases hlt : k < Le
          · by_cases hltg : k < gs
            · rcases EN5.out with h0 | ⟨eb, eo, rfl, hel, hee⟩
              · omega
              · have hneE : ¬ eb = E := fun e => by
                  rcases HEn.out with h0 | ⟨eb', eo', he', hel', -⟩
                  · omega
                  · injection he' with he'; injection he' with he'; have := TE0.out.2; omega
                have x0 := (hF.cell hel hneE).trans (hee k hlt).1
                have x1 := (hF.cell hel hneE).trans (hee k hlt).2
                clear hee
                have HT := hide hT
                have HF2 := hide hF
                have HO := hide ho
                clear hT hF ho
                by_cases hx : 0 ≤ X k ∧ X k ≤ 4
                · have hxd := hide (show decide (0 ≤ X k ∧ X k ≤ 4) = true from decide_eq_true hx)
                  have U := hide (upd_in HO.out hx k)
                  clear hx
                  go_wp2_with fail
                  refine (set_yes T E gs k o l (X k) (F k) hltg hxd.out _ HT.out).mono ?_
                  rintro r w7 ⟨rfl, t7, g7⟩
                  have SR := hide (show SetRel T E gs Le w5 (.int .i64 ((k : Int) + 1)) w7 from ⟨k + 1, by omega, int_eq (by omega), _, _, U.out, t7, HF2.out.trans (Fr.of_grown (S := fun b => b = E) g7 (fun _ => rfl)) (fun _ _ e => e)⟩)
                  clear t7 g7
                  go_wp2
                  go_roundw
                  case rel => exact SR.out
                  case measure => simp [intOf]; omega
                · have hxd := hide (show decide (0 ≤ X k ∧ X k ≤ 4) = false from decide_eq_false hx)
                  clear hx
                  go_wp2_with fail
                  refine (set_bad T E gs k o l (X k) (F k) hltg hxd.out _ HT.out).mono ?_
                  rintro r w7 ⟨rfl, hb7⟩
                  have SR := hide (show SetRel T E gs Le w5 (.int .i64 ((k : Int) + 1)) w7 from ⟨k + 1, by omega, int_eq (by omega), _, _, HO.out, HT.out.next hb7, HF2.out.trans (Fr.of_below (S := fun b => b = E) hb7) (fun _ _ e => e)⟩)
                  clear hb7
                  go_wp2
                  go_roundw
                  case rel => exact SR.out
                  case measure => simp [intOf]; omega
            · skip
              obtain ⟨w6, hw6⟩ : ∃ x : World, x = wr := ⟨_, rfl⟩
              subst hw6
              have KV := hide (CK5.out.fr hF (fun b e e2 => NE5.out (e2 ▸ e)))
              have BEL := hide ((BEL5.out).trans (hF.below (BEL5.out).size (fun i hi e => by have := TE0.out.2; omega)))
              obtain ⟨AG, hAG⟩ : ∃ AG : Nat → Prop, AG = fun b => b < w6.heap.size ∧ ¬ Ck.S P v5 b := ⟨_, rfl⟩
              have G6 := hide (show Gw AG w6 w6 P en gs T E o l false _ _ _ v5 [] from by (subst hAG; exact ⟨KV.out, hT, fun b e a => a.2 e, ⟨hT.1, NT5.out⟩, ⟨hT.2.1, NE5.out⟩, fun b a => a.1, Fr.refl _ _⟩))
              have AGW := hide (show ∀ i, i < w.heap.size → AG i from by (subst hAG; intro i hi; exact ⟨by have := BEL.out.size; omega, fun e => by have := LK5.out i e; omega⟩))
              have ABOX := hide (show AG w.heap.size from by (subst hAG; exact ⟨by have := hF.size; have := LW5.out; omega, NB5.out⟩))
              have BX6 := hide (show w6.cell? ⟨w.heap.size, 1, none⟩ = some (.int .i64 gs) from (hF.cell LW5.out (by have := TE0.out.2; omega)).trans BX5.out)
              have HO := hide ho
              have b1 := BX6.out
              clear hT hF ho hAG
              go_wp2
              go_loopw [16] (fun v16 wr => GRel AG w6 P en gs T E o l v16 wr) (fun v16 _ => gs - (intOf v16).toNat)
              case atStart => exact ⟨0, by omega, rfl, _, _, _, _, _, G6.out, fun x hx => by cases hx⟩
              case round =>
                obtain ⟨g, hgle, rfl, st', gr', at', v', ks', hG, hlt0⟩ := hrel
                have GR := hide hG
                have HLT0 := hide hlt0
                have b1 := (hG.cell (i := 1) ABOX.out).trans BX6.out
                clear hG hlt0
                by_cases hlt : g < gs
                · obtain ⟨q, hq⟩ : ∃ q : Nat, g / 4 = q := ⟨_, rfl⟩
                  have hqm := hide (show q < mn by have := HM.out; omega)
                  have HQ2 := hide (show ∃ i, i < 4 ∧ 4 * q + i = g from ⟨g - 4 * q, by omega, by omega⟩)
                  have HQ := hide hq
                  go_wp2_with fail
                  refine (begin_yes g hlt (fun x hx e => by have := HLT0.out x hx; omega) _ GR.out.k).mono ?_
                  rintro r w2' ⟨rfl, k2, f2⟩
                  rw [hq] at k2 ⊢
                  clear hq
                  have G2 := hide (GR.out.ckP k2 f2)
                  clear k2 f2
                  obtain ⟨xo, hxo'⟩ : ∃ x, o g = x := ⟨_, rfl⟩
                  obtain ⟨xl, hxl'⟩ : ∃ x, l g = x := ⟨_, rfl⟩
                  have hxo := hide hxo'
                  have hxl := hide hxl'
                  have hx0 : 0 ≤ xo := by rw [← hxo']; exact (HO.out g).1
                  have hx4 : xo ≤ 4 := by rw [← hxo']; exact (HO.out g).2
                  clear hxo' hxl'
                  go_wp2_with fail
                  refine (get_v xo xl hlt hxo.out hxl.out _ G2.out.t).mono ?_
                  rintro r w3' ⟨rfl, hb3⟩
                  have G3 := hide ((G2.out.next hb3).next ((Below.refl _ _).alloc (Nat.le_refl _) (.cells #[.int .i64 xo, .bool xl] 34)))
                  have X3 := hide (show Xc (w3'.alloc (.cells #[.int .i64 xo, .bool xl] 34)) w3'.heap.size P v' xo xl from ⟨by simp, World.cell?_alloc_new _ _ _ 0, World.cell?_alloc_new _ _ _ 1, fun e => by have := (G2.out.next hb3).k.lt _ e; omega⟩)
                  clear hb3
                  go_wp2
                  refine wp_loop_rounds 3 ?_
                  rw [rounds_succ]
                  cases hp : plB gs o l q
                  · have XP := hide (show wdF mn gs o l q = 4 * ((mn : Int) + 4 * q) + 1 from wd_part hqm.out hp)
                    clear hp
                    go_wp2_with fail
                    refine (word_in mn T E gs q o l _ hg1 hg16 HM.out HO.out (by have := hqm.out; omega) XP.out _ G3.out.t).mono ?_
                    rintro r w4 ⟨rfl, hb4⟩
                    have G4 := hide (G3.out.next hb4)
                    have X4 := hide (X3.out.next hb4)
                    clear hb4
                    go_wp2_with fail
                    refine (walked_next ((mn : Int) + g) _ (fun W => next_part gs g q mn hg1 hg16 hlt HQ.out HM.out W) _ G4.out.k).mono ?_
                    rintro r w5' ⟨rfl, k5, f5⟩
                    have G5 := hide (G4.out.ckP k5 f5)
                    have X5 := hide (X4.out.ckP f5)
                    clear k5 f5
                    go_wp2
                    rw [rounds_succ]
                    cases hl2 : l g
                    · have e2 : xl = false := hxl.out.symm.trans hl2
                      subst e2
                      have XW := hide (show wdF mn gs o l (mn + g) = xo by rw [wd_own, hl2, ← hxo.out]; rfl)
                      clear hl2
                      go_wp2_with fail
                      refine (word_own mn T E gs g o l xo hg1 hg16 HM.out HO.out hlt XW.out _ G5.out.t).mono ?_
                      rintro r w7 ⟨rfl, hb7⟩
                      have G7 := hide (G5.out.next hb7)
                      have X7 := hide (X5.out.next hb7)
                      clear hb7
                      go_wp2_with fail
                      refine (walked_learn g xo xo he1 (fun W => next_own gs g q mn xo hx0 hx4 hg1 hg16 hlt HQ.out HM.out W) HLT0.out _ G7.out.k).mono ?_
                      rintro r w9 ⟨rfl, v9, ks9, jj, k9, f9, s9, j1, j2, j3⟩
                      have GE := hide (G7.out.ck k9 f9 s9)
                      have XE := hide (X7.out.ck f9 s9)
                      have HJ1 := hide j1
                      have HJ2 := hide j2
                      have HLT := hide j3
                      have xc1 := XE.out.c1
                      have xc0 := XE.out.c0
                      clear k9 f9 s9 j1 j2 j3
                      go_wp2
                      rw [rounds_succ]
                      go_wp2
                      go_loopw [28] (fun v28 wq => ∃ k : Nat, k ≤ 4 ∧ v28 = .int .i64 k ∧ Fr (fun _ => False) w9 wq) (fun v28 _ => 4 - (intOf v28).toNat)
                      case atStart => exact ⟨0, by omega, rfl, Fr.refl _ _⟩
                      case round =>
                        obtain ⟨kk, hkk, rfl, hFq⟩ := hrel
                        have GQ := hide (GE.out.next ⟨hFq.os, hFq.tape, hFq.output, hFq.size, fun i hi => hFq.block i hi (fun e => e)⟩)
                        have XQ := hide (XE.out.next ⟨hFq.os, hFq.tape, hFq.output, hFq.size, fun i hi => hFq.block i hi (fun e => e)⟩)
                        have FQ := hide hFq
                        clear hFq
                        by_cases hk3 : kk ≤ 3
                        · cases hdb : decide ((0 ≤ (kk : Int) ∧ (kk : Int) ≤ 3) ∧ (0 ≤ xo ∧ xo ≤ 4) ∧ ((kk : Int) = 0 ∨ xo = kk ∨ xo = 4))
                          all_goals
                            have HD := hide hdb
                            clear hdb
                          · go_wp2_with fail
                            refine (ask_known (kk : Int) g xo false jj (by omega) (by omega) HJ1.out HJ2.out HD.out _ GQ.out.k).mono ?_
                            rintro r wa ⟨rfl, hba⟩
                            have XA := hide (XQ.out.next hba)
                            have x0 := XA.out.c0
                            have FA := hide (FQ.out.trans (Fr.of_below (S := fun _ => False) hba) (fun _ _ e => e))
                            clear hba
                            go_wp2_with fail
                            refine (tmay_v (kk : Int) xo false HD.out _).mono ?_
                            rintro r wb ⟨rfl, rfl⟩
                            go_wp2
                            go_roundw
                            case rel => exact ⟨kk + 1, by omega, int_eq (by omega), FA.out⟩
                            case measure => simp [intOf]; omega
                          · go_wp2_with fail
                            refine (ask_known (kk : Int) g xo true jj (by omega) (by omega) HJ1.out HJ2.out HD.out _ GQ.out.k).mono ?_
                            rintro r wa ⟨rfl, hba⟩
                            have XA := hide (XQ.out.next hba)
                            have x0 := XA.out.c0
                            have FA := hide (FQ.out.trans (Fr.of_below (S := fun _ => False) hba) (fun _ _ e => e))
                            clear hba
                            go_wp2_with fail
                            refine (tmay_v (kk : Int) xo true HD.out _).mono ?_
                            rintro r wb ⟨rfl, rfl⟩
                            go_wp2
                            go_roundw
                            case rel => exact ⟨kk + 1, by omega, int_eq (by omega), FA.out⟩
                            case measure => simp [intOf]; omega
                        · have GR2 := hide (show GRel AG w6 P en gs T E o l (.int .i64 ((g : Int) + 1)) wr from ⟨g + 1, by omega, int_eq (by omega), _, _, _, _, _, GQ.out, HLT.out⟩)
                          go_wp2
                          go_roundw
                          case rel => exact GR2.out
                          case measure => simp [intOf]; omega
                    · have e2 : xl = true := hxl.out.symm.trans hl2
                      subst e2
                      have XW := hide (show wdF mn gs o l (mn + g) = xo + 8 by rw [wd_own, hl2, ← hxo.out]; rfl)
                      clear hl2
                      go_wp2_with fail
                      refine (word_own mn T E gs g o l (xo + 8) hg1 hg16 HM.out HO.out hlt XW.out _ G5.out.t).mono ?_
                      rintro r w7 ⟨rfl, hb7⟩
                      have G7 := hide (G5.out.next hb7)
                      have X7 := hide (X5.out.next hb7)
                      clear hb7
                      go_wp2_with fail
                      refine (walked_lock 0 xo (xo + 8) g rfl (by omega) (fun W => next_lock gs g q mn xo hx0 hx4 hg1 hg16 hlt HQ.out HM.out W) _ G7.out.k).mono ?_
                      rintro r w9 ⟨rfl, k9, f9⟩
                      have GE := hide (G7.out.ckP k9 f9)
                      have XE := hide (X7.out.ckP f9)
                      have xc1 := XE.out.c1
                      clear k9 f9
                      go_wp2
                      rw [rounds_succ]
                      go_wp2_with fail
                      refine (awake_ok _).mono ?_
                      rintro r wz ⟨rfl, hbz⟩
                      have BZ := hide ((BEL.out).trans ((GE.out.bel).below (BEL.out).size (fun i hi e => e (AGW.out i hi))) |>.trans (hbz.mono (Nat.le_trans (BEL.out).size GE.out.bel.size)))
                      clear hbz
                      go_wp2
                      go_ret
                      exact ⟨rfl, BZ.out⟩
                  · have XP := hide (show wdF mn gs o l q = 4 * o (4 * q) from wd_plain hqm.out hp)
                    have hpl := (plB_iff gs o l q).1 hp
                    have hpg : o g = o (4 * q) ∧ l g = false := by obtain ⟨i, hi4, hie⟩ := HQ2.out; have := hpl i hi4 (by omega); rw [hie] at this; exact this
                    have e2 : xl = false := hxl.out.symm.trans hpg.2
                    subst e2
                    have hxe : o (4 * q) = xo := hpg.1.symm.trans hxo.out
                    rw [hxe] at XP
                    clear hp hpl hpg hxe
                    go_wp2_with fail
                    refine (word_in mn T E gs q o l _ hg1 hg16 HM.out HO.out (by have := hqm.out; omega) XP.out _ G3.out.t).mono ?_
                    rintro r w4 ⟨rfl, hb4⟩
                    have G4 := hide (G3.out.next hb4)
                    have X4 := hide (X3.out.next hb4)
                    clear hb4
                    go_wp2_with fail
                    refine (walked_learn g xo (4 * xo) he1 (fun W => next_plain gs g q mn xo hx0 hx4 hg1 hg16 hlt HQ.out HM.out W) HLT0.out _ G4.out.k).mono ?_
                    rintro r w9 ⟨rfl, v9, ks9, jj, k9, f9, s9, j1, j2, j3⟩
                    have GE := hide (G4.out.ck k9 f9 s9)
                    have XE := hide (X4.out.ck f9 s9)
                    have HJ1 := hide j1
                    have HJ2 := hide j2
                    have HLT := hide j3
                    have xc1 := XE.out.c1
                    have xc0 := XE.out.c0
                    clear k9 f9 s9 j1 j2 j3
                    go_wp2
                    rw [rounds_succ]
                    go_wp2
                    go_loopw [28] (fun v28 wq => ∃ k : Nat, k ≤ 4 ∧ v28 = .int .i64 k ∧ Fr (fun _ => False) w9 wq) (fun v28 _ => 4 - (intOf v28).toNat)
                    case atStart => exact ⟨0, by omega, rfl, Fr.refl _ _⟩
                    case round =>
                      obtain ⟨kk, hkk, rfl, hFq⟩ := hrel
                      have GQ := hide (GE.out.next ⟨hFq.os, hFq.tape, hFq.output, hFq.size, fun i hi => hFq.block i hi (fun e => e)⟩)
                      have XQ := hide (XE.out.next ⟨hFq.os, hFq.tape, hFq.output, hFq.size, fun i hi => hFq.block i hi (fun e => e)⟩)
                      have FQ := hide hFq
                      clear hFq
                      by_cases hk3 : kk ≤ 3
                      · cases hdb : decide ((0 ≤ (kk : Int) ∧ (kk : Int) ≤ 3) ∧ (0 ≤ xo ∧ xo ≤ 4) ∧ ((kk : Int) = 0 ∨ xo = kk ∨ xo = 4))
                        all_goals
                          have HD := hide hdb
                          clear hdb
                        · go_wp2_with fail
                          refine (ask_known (kk : Int) g xo false jj (by omega) (by omega) HJ1.out HJ2.out HD.out _ GQ.out.k).mono ?_
                          rintro r wa ⟨rfl, hba⟩
                          have XA := hide (XQ.out.next hba)
                          have x0 := XA.out.c0
                          have FA := hide (FQ.out.trans (Fr.of_below (S := fun _ => False) hba) (fun _ _ e => e))
                          clear hba
                          go_wp2_with fail
                          refine (tmay_v (kk : Int) xo false HD.out _).mono ?_
                          rintro r wb ⟨rfl, rfl⟩
                          go_wp2
                          go_roundw
                          case rel => exact ⟨kk + 1, by omega, int_eq (by omega), FA.out⟩
                          case measure => simp [intOf]; omega
                        · go_wp2_with fail
                          refine (ask_known (kk : Int) g xo true jj (by omega) (by omega) HJ1.out HJ2.out HD.out _ GQ.out.k).mono ?_
                          rintro r wa ⟨rfl, hba⟩
                          have XA := hide (XQ.out.next hba)
                          have x0 := XA.out.c0
                          have FA := hide (FQ.out.trans (Fr.of_below (S := fun _ => False) hba) (fun _ _ e => e))
                          clear hba
                          go_wp2_with fail
                          refine (tmay_v (kk : Int) xo true HD.out _).mono ?_
                          rintro r wb ⟨rfl, rfl⟩
                          go_wp2
                          go_roundw
                          case rel => exact ⟨kk + 1, by omega, int_eq (by omega), FA.out⟩
                          case measure => simp [intOf]; omega
                      · have GR2 := hide (show GRel AG w6 P en gs T E o l (.int .i64 ((g : Int) + 1)) wr from ⟨g + 1, by omega, int_eq (by omega), _, _, _, _, _, GQ.out, HLT.out⟩)
                        go_wp2
                        go_roundw
                        case rel => exact GR2.out
                        case measure => simp [intOf]; omega
                · have BR := hide ((BEL.out).trans ((GR.out.bel).below (BEL.out).size (fun i hi e => e (AGW.out i hi))))
                  go_wp2_with fail
                  refine (awake_ok _).mono ?_
                  rintro r wz ⟨rfl, hbz⟩
                  have BZ := hide (below_step BR.out BR.out.size hbz)
                  clear hbz
                  go_wp2
                  go_ret
                  exact ⟨rfl, BZ.out⟩
          · skip
            obtain ⟨w6, hw6⟩ : ∃ x : World, x = wr := ⟨_, rfl⟩
            subst hw6
            have KV := hide (CK5.out.fr hF (fun b e e2 => NE5.out (e2 ▸ e)))
            have BEL := hide ((BEL5.out).trans (hF.below (BEL5.out).size (fun i hi e => by have := TE0.out.2; omega)))
            obtain ⟨AG, hAG⟩ : ∃ AG : Nat → Prop, AG = fun b => b < w6.heap.size ∧ ¬ Ck.S P v5 b := ⟨_, rfl⟩
            have G6 := hide (show Gw AG w6 w6 P en gs T E o l false _ _ _ v5 [] from by (subst hAG; exact ⟨KV.out, hT, fun b e a => a.2 e, ⟨hT.1, NT5.out⟩, ⟨hT.2.1, NE5.out⟩, fun b a => a.1, Fr.refl _ _⟩))
            have AGW := hide (show ∀ i, i < w.heap.size → AG i from by (subst hAG; intro i hi; exact ⟨by have := BEL.out.size; omega, fun e => by have := LK5.out i e; omega⟩))
            have ABOX := hide (show AG w.heap.size from by (subst hAG; exact ⟨by have := hF.size; have := LW5.out; omega, NB5.out⟩))
            have BX6 := hide (show w6.cell? ⟨w.heap.size, 1, none⟩ = some (.int .i64 gs) from (hF.cell LW5.out (by have := TE0.out.2; omega)).trans BX5.out)
            have HO := hide ho
            have b1 := BX6.out
            clear hT hF ho hAG
            go_wp2
            go_loopw [16] (fun v16 wr => GRel AG w6 P en gs T E o l v16 wr) (fun v16 _ => gs - (intOf v16).toNat)
            case atStart => exact ⟨0, by omega, rfl, _, _, _, _, _, G6.out, fun x hx => by cases hx⟩
            case round =>
              obtain ⟨g, hgle, rfl, st', gr', at', v', ks', hG, hlt0⟩ := hrel
              have GR := hide hG
              have HLT0 := hide hlt0
              have b1 := (hG.cell (i := 1) ABOX.out).trans BX6.out
              clear hG hlt0
              by_cases hlt : g < gs
              · obtain ⟨q, hq⟩ : ∃ q : Nat, g / 4 = q := ⟨_, rfl⟩
                have hqm := hide (show q < mn by have := HM.out; omega)
                have HQ2 := hide (show ∃ i, i < 4 ∧ 4 * q + i = g from ⟨g - 4 * q, by omega, by omega⟩)
                have HQ := hide hq
                go_wp2_with fail
                refine (begin_yes g hlt (fun x hx e => by have := HLT0.out x hx; omega) _ GR.out.k).mono ?_
                rintro r w2' ⟨rfl, k2, f2⟩
                rw [hq] at k2 ⊢
                clear hq
                have G2 := hide (GR.out.ckP k2 f2)
                clear k2 f2
                obtain ⟨xo, hxo'⟩ : ∃ x, o g = x := ⟨_, rfl⟩
                obtain ⟨xl, hxl'⟩ : ∃ x, l g = x := ⟨_, rfl⟩
                have hxo := hide hxo'
                have hxl := hide hxl'
                have hx0 : 0 ≤ xo := by rw [← hxo']; exact (HO.out g).1
                have hx4 : xo ≤ 4 := by rw [← hxo']; exact (HO.out g).2
                clear hxo' hxl'
                go_wp2_with fail
                refine (get_v xo xl hlt hxo.out hxl.out _ G2.out.t).mono ?_
                rintro r w3' ⟨rfl, hb3⟩
                have G3 := hide ((G2.out.next hb3).next ((Below.refl _ _).alloc (Nat.le_refl _) (.cells #[.int .i64 xo, .bool xl] 34)))
                have X3 := hide (show Xc (w3'.alloc (.cells #[.int .i64 xo, .bool xl] 34)) w3'.heap.size P v' xo xl from ⟨by simp, World.cell?_alloc_new _ _ _ 0, World.cell?_alloc_new _ _ _ 1, fun e => by have := (G2.out.next hb3).k.lt _ e; omega⟩)
                clear hb3
                go_wp2
                refine wp_loop_rounds 3 ?_
                rw [rounds_succ]
                cases hp : plB gs o l q
                · have XP := hide (show wdF mn gs o l q = 4 * ((mn : Int) + 4 * q) + 1 from wd_part hqm.out hp)
                  clear hp
                  go_wp2_with fail
                  refine (word_in mn T E gs q o l _ hg1 hg16 HM.out HO.out (by have := hqm.out; omega) XP.out _ G3.out.t).mono ?_
                  rintro r w4 ⟨rfl, hb4⟩
                  have G4 := hide (G3.out.next hb4)
                  have X4 := hide (X3.out.next hb4)
                  clear hb4
                  go_wp2_with fail
                  refine (walked_next ((mn : Int) + g) _ (fun W => next_part gs g q mn hg1 hg16 hlt HQ.out HM.out W) _ G4.out.k).mono ?_
                  rintro r w5' ⟨rfl, k5, f5⟩
                  have G5 := hide (G4.out.ckP k5 f5)
                  have X5 := hide (X4.out.ckP f5)
                  clear k5 f5
                  go_wp2
                  rw [rounds_succ]
                  cases hl2 : l g
                  · have e2 : xl = false := hxl.out.symm.trans hl2
                    subst e2
                    have XW := hide (show wdF mn gs o l (mn + g) = xo by rw [wd_own, hl2, ← hxo.out]; rfl)
                    clear hl2
                    go_wp2_with fail
                    refine (word_own mn T E gs g o l xo hg1 hg16 HM.out HO.out hlt XW.out _ G5.out.t).mono ?_
                    rintro r w7 ⟨rfl, hb7⟩
                    have G7 := hide (G5.out.next hb7)
                    have X7 := hide (X5.out.next hb7)
                    clear hb7
                    go_wp2_with fail
                    refine (walked_learn g xo xo he1 (fun W => next_own gs g q mn xo hx0 hx4 hg1 hg16 hlt HQ.out HM.out W) HLT0.out _ G7.out.k).mono ?_
                    rintro r w9 ⟨rfl, v9, ks9, jj, k9, f9, s9, j1, j2, j3⟩
                    have GE := hide (G7.out.ck k9 f9 s9)
                    have XE := hide (X7.out.ck f9 s9)
                    have HJ1 := hide j1
                    have HJ2 := hide j2
                    have HLT := hide j3
                    have xc1 := XE.out.c1
                    have xc0 := XE.out.c0
                    clear k9 f9 s9 j1 j2 j3
                    go_wp2
                    rw [rounds_succ]
                    go_wp2
                    go_loopw [28] (fun v28 wq => ∃ k : Nat, k ≤ 4 ∧ v28 = .int .i64 k ∧ Fr (fun _ => False) w9 wq) (fun v28 _ => 4 - (intOf v28).toNat)
                    case atStart => exact ⟨0, by omega, rfl, Fr.refl _ _⟩
                    case round =>
                      obtain ⟨kk, hkk, rfl, hFq⟩ := hrel
                      have GQ := hide (GE.out.next ⟨hFq.os, hFq.tape, hFq.output, hFq.size, fun i hi => hFq.block i hi (fun e => e)⟩)
                      have XQ := hide (XE.out.next ⟨hFq.os, hFq.tape, hFq.output, hFq.size, fun i hi => hFq.block i hi (fun e => e)⟩)
                      have FQ := hide hFq
                      clear hFq
                      by_cases hk3 : kk ≤ 3
                      · cases hdb : decide ((0 ≤ (kk : Int) ∧ (kk : Int) ≤ 3) ∧ (0 ≤ xo ∧ xo ≤ 4) ∧ ((kk : Int) = 0 ∨ xo = kk ∨ xo = 4))
                        all_goals
                          have HD := hide hdb
                          clear hdb
                        · go_wp2_with fail
                          refine (ask_known (kk : Int) g xo false jj (by omega) (by omega) HJ1.out HJ2.out HD.out _ GQ.out.k).mono ?_
                          rintro r wa ⟨rfl, hba⟩
                          have XA := hide (XQ.out.next hba)
                          have x0 := XA.out.c0
                          have FA := hide (FQ.out.trans (Fr.of_below (S := fun _ => False) hba) (fun _ _ e => e))
                          clear hba
                          go_wp2_with fail
                          refine (tmay_v (kk : Int) xo false HD.out _).mono ?_
                          rintro r wb ⟨rfl, rfl⟩
                          go_wp2
                          go_roundw
                          case rel => exact ⟨kk + 1, by omega, int_eq (by omega), FA.out⟩
                          case measure => simp [intOf]; omega
                        · go_wp2_with fail
                          refine (ask_known (kk : Int) g xo true jj (by omega) (by omega) HJ1.out HJ2.out HD.out _ GQ.out.k).mono ?_
                          rintro r wa ⟨rfl, hba⟩
                          have XA := hide (XQ.out.next hba)
                          have x0 := XA.out.c0
                          have FA := hide (FQ.out.trans (Fr.of_below (S := fun _ => False) hba) (fun _ _ e => e))
                          clear hba
                          go_wp2_with fail
                          refine (tmay_v (kk : Int) xo true HD.out _).mono ?_
                          rintro r wb ⟨rfl, rfl⟩
                          go_wp2
                          go_roundw
                          case rel => exact ⟨kk + 1, by omega, int_eq (by omega), FA.out⟩
                          case measure => simp [intOf]; omega
                      · have GR2 := hide (show GRel AG w6 P en gs T E o l (.int .i64 ((g : Int) + 1)) wr from ⟨g + 1, by omega, int_eq (by omega), _, _, _, _, _, GQ.out, HLT.out⟩)
                        go_wp2
                        go_roundw
                        case rel => exact GR2.out
                        case measure => simp [intOf]; omega
                  · have e2 : xl = true := hxl.out.symm.trans hl2
                    subst e2
                    have XW := hide (show wdF mn gs o l (mn + g) = xo + 8 by rw [wd_own, hl2, ← hxo.out]; rfl)
                    clear hl2
                    go_wp2_with fail
                    refine (word_own mn T E gs g o l (xo + 8) hg1 hg16 HM.out HO.out hlt XW.out _ G5.out.t).mono ?_
                    rintro r w7 ⟨rfl, hb7⟩
                    have G7 := hide (G5.out.next hb7)
                    have X7 := hide (X5.out.next hb7)
                    clear hb7
                    go_wp2_with fail
                    refine (walked_lock 0 xo (xo + 8) g rfl (by omega) (fun W => next_lock gs g q mn xo hx0 hx4 hg1 hg16 hlt HQ.out HM.out W) _ G7.out.k).mono ?_
                    rintro r w9 ⟨rfl, k9, f9⟩
                    have GE := hide (G7.out.ckP k9 f9)
                    have XE := hide (X7.out.ckP f9)
                    have xc1 := XE.out.c1
                    clear k9 f9
                    go_wp2
                    rw [rounds_succ]
                    go_wp2_with fail
                    refine (awake_ok _).mono ?_
                    rintro r wz ⟨rfl, hbz⟩
                    have BZ := hide ((BEL.out).trans ((GE.out.bel).below (BEL.out).size (fun i hi e => e (AGW.out i hi))) |>.trans (hbz.mono (Nat.le_trans (BEL.out).size GE.out.bel.size)))
                    clear hbz
                    go_wp2
                    go_ret
                    exact ⟨rfl, BZ.out⟩
                · have XP := hide (show wdF mn gs o l q = 4 * o (4 * q) from wd_plain hqm.out hp)
                  have hpl := (plB_iff gs o l q).1 hp
                  have hpg : o g = o (4 * q) ∧ l g = false := by obtain ⟨i, hi4, hie⟩ := HQ2.out; have := hpl i hi4 (by omega); rw [hie] at this; exact this
                  have e2 : xl = false := hxl.out.symm.trans hpg.2
                  subst e2
                  have hxe : o (4 * q) = xo := hpg.1.symm.trans hxo.out
                  rw [hxe] at XP
                  clear hp hpl hpg hxe
                  go_wp2_with fail
                  refine (word_in mn T E gs q o l _ hg1 hg16 HM.out HO.out (by have := hqm.out; omega) XP.out _ G3.out.t).mono ?_
                  rintro r w4 ⟨rfl, hb4⟩
                  have G4 := hide (G3.out.next hb4)
                  have X4 := hide (X3.out.next hb4)
                  clear hb4
                  go_wp2_with fail
                  refine (walked_learn g xo (4 * xo) he1 (fun W => next_plain gs g q mn xo hx0 hx4 hg1 hg16 hlt HQ.out HM.out W) HLT0.out _ G4.out.k).mono ?_
                  rintro r w9 ⟨rfl, v9, ks9, jj, k9, f9, s9, j1, j2, j3⟩
                  have GE := hide (G4.out.ck k9 f9 s9)
                  have XE := hide (X4.out.ck f9 s9)
                  have HJ1 := hide j1
                  have HJ2 := hide j2
                  have HLT := hide j3
                  have xc1 := XE.out.c1
                  have xc0 := XE.out.c0
                  clear k9 f9 s9 j1 j2 j3
                  go_wp2
                  rw [rounds_succ]
                  go_wp2
                  go_loopw [28] (fun v28 wq => ∃ k : Nat, k ≤ 4 ∧ v28 = .int .i64 k ∧ Fr (fun _ => False) w9 wq) (fun v28 _ => 4 - (intOf v28).toNat)
                  case atStart => exact ⟨0, by omega, rfl, Fr.refl _ _⟩
                  case round =>
                    obtain ⟨kk, hkk, rfl, hFq⟩ := hrel
                    have GQ := hide (GE.out.next ⟨hFq.os, hFq.tape, hFq.output, hFq.size, fun i hi => hFq.block i hi (fun e => e)⟩)
                    have XQ := hide (XE.out.next ⟨hFq.os, hFq.tape, hFq.output, hFq.size, fun i hi => hFq.block i hi (fun e => e)⟩)
                    have FQ := hide hFq
                    clear hFq
                    by_cases hk3 : kk ≤ 3
                    · cases hdb : decide ((0 ≤ (kk : Int) ∧ (kk : Int) ≤ 3) ∧ (0 ≤ xo ∧ xo ≤ 4) ∧ ((kk : Int) = 0 ∨ xo = kk ∨ xo = 4))
                      all_goals
                        have HD := hide hdb
                        clear hdb
                      · go_wp2_with fail
                        refine (ask_known (kk : Int) g xo false jj (by omega) (by omega) HJ1.out HJ2.out HD.out _ GQ.out.k).mono ?_
                        rintro r wa ⟨rfl, hba⟩
                        have XA := hide (XQ.out.next hba)
                        have x0 := XA.out.c0
                        have FA := hide (FQ.out.trans (Fr.of_below (S := fun _ => False) hba) (fun _ _ e => e))
                        clear hba
                        go_wp2_with fail
                        refine (tmay_v (kk : Int) xo false HD.out _).mono ?_
                        rintro r wb ⟨rfl, rfl⟩
                        go_wp2
                        go_roundw
                        case rel => exact ⟨kk + 1, by omega, int_eq (by omega), FA.out⟩
                        case measure => simp [intOf]; omega
                      · go_wp2_with fail
                        refine (ask_known (kk : Int) g xo true jj (by omega) (by omega) HJ1.out HJ2.out HD.out _ GQ.out.k).mono ?_
                        rintro r wa ⟨rfl, hba⟩
                        have XA := hide (XQ.out.next hba)
                        have x0 := XA.out.c0
                        have FA := hide (FQ.out.trans (Fr.of_below (S := fun _ => False) hba) (fun _ _ e => e))
                        clear hba
                        go_wp2_with fail
                        refine (tmay_v (kk : Int) xo true HD.out _).mono ?_
                        rintro r wb ⟨rfl, rfl⟩
                        go_wp2
                        go_roundw
                        case rel => exact ⟨kk + 1, by omega, int_eq (by omega), FA.out⟩
                        case measure => simp [intOf]; omega
                    · have GR2 := hide (show GRel AG w6 P en gs T E o l (.int .i64 ((g : Int) + 1)) wr from ⟨g + 1, by omega, int_eq (by omega), _, _, _, _, _, GQ.out, HLT.out⟩)
                      go_wp2
                      go_roundw
                      case rel => exact GR2.out
                      case measure => simp [intOf]; omega
              · have BR := hide ((BEL.out).trans ((GR.out.bel).below (BEL.out).size (fun i hi e => e (AGW.out i hi))))
                go_wp2_with fail
                refine (awake_ok _).mono ?_
                rintro r wz ⟨rfl, hbz⟩
                have BZ := hide (below_step BR.out BR.out.size hbz)
                clear hbz
                go_wp2
                go_ret
                exact ⟨rfl, BZ.out⟩
      · go_wp2_with fail
        refine (walking_yes _ HK.out).mono ?_
        rintro r w4 ⟨rfl, hb4⟩
        have BW := hide ((B2.out).trans ((HF.out.trans (Fr.of_below (S := fun _ => False) hb4) (fun _ _ e => e.elim)).below (B2.out).size (fun i hi e => e (HAA.out i (by omega) (by omega)))))
        clear hb4
        go_wp2_with fail
        refine (awake_ok _).mono ?_
        rintro r wz ⟨rfl, hbz⟩
        have BZ := hide (below_step BW.out BW.out.size hbz)
        clear hbz
        go_wp2
        go_ret
        exact ⟨rfl, BZ.out⟩
end Go.Proofs.Ytfikiophfphmbaa
