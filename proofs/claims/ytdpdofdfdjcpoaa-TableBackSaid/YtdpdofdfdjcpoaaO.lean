/- TableBack, walked: the call that is answered OK. -/
import Derived.Test.YtdpdofdfdjcpoaaM
import Derived.WalkKit
import Derived.WalkSpells
import Derived.ProofKit
import Derived.Outline
import Derived.Handy
import Derived.RowKit3
import Derived.BigQuiet
import Derived.Deep.QuietTactic
import Derived.Deep.RegionHeld3
import Derived.Deep.Draws
import Derived.RegionTactic
import Derived.BigRegion
import Derived.IntWalk
import Derived.LoopTactic
import Derived.OwnWalk
import Derived.Laws.AppendOwn
import Derived.Laws.OwnMore
import Derived.Laws.MakeOwn
import Derived.Laws.Pointers
import Derived.Maps.AppendAt
import Derived.Below
namespace Go.Proofs.Ytdpdofdfdjcpoaa
open Go.RowKit
set_option linter.unusedVariables false
set_option maxRecDepth 100000

def KS (p q : Nat) (a x : Int) (l : Bool) (y : Int) (z : Bool) (w W : World) : Prop :=
  W.cell? ⟨p, 0, none⟩ = some (.int .i64 a) ∧ W.cell? ⟨p, 1, none⟩ = some (.int .i64 x) ∧ W.cell? ⟨p, 2, none⟩ = some (.bool l) ∧ W.cell? ⟨q, 0, none⟩ = some (.int .i64 y) ∧ W.cell? ⟨q, 1, none⟩ = some (.bool z) ∧ Below w.heap.size w W ∧ p < W.heap.size ∧ q < W.heap.size
theorem KS.next {p q : Nat} {a x : Int} {l : Bool} {y : Int} {z : Bool} {w W w' : World} (h : KS p q a x l y z w W) (k : Below W.heap.size W w') : KS p q a x l y z w w' := by
  obtain ⟨h0, h1, h2, h3, h4, h5, h6, h7⟩ := h
  exact ⟨cell_next k h6 h0, cell_next k h6 h1, cell_next k h6 h2, cell_next k h7 h3, cell_next k h7 h4, below_step h5 h5.size k, Nat.lt_of_lt_of_le h6 k.size, Nat.lt_of_lt_of_le h7 k.size⟩
theorem KS.only {p q E : Nat} {a x : Int} {l : Bool} {y : Int} {z : Bool} {w W w' : World} (h : KS p q a x l y z w W) (k : W.grownBy w' (some E)) (hE : w.heap.size ≤ E) (hp : p ≠ E) (hq : q ≠ E) : KS p q a x l y z w w' := by
  obtain ⟨h0, h1, h2, h3, h4, h5, h6, h7⟩ := h
  have bp : w'.heap[p]? = W.heap[p]? := k.block p h6 (fun e => hp (by injection e))
  have bq : w'.heap[q]? = W.heap[q]? := k.block q h7 (fun e => hq (by injection e))
  exact ⟨(World.cell?_of_block (a := ⟨p, 0, none⟩) bp).trans h0, (World.cell?_of_block (a := ⟨p, 1, none⟩) bp).trans h1, (World.cell?_of_block (a := ⟨p, 2, none⟩) bp).trans h2, (World.cell?_of_block (a := ⟨q, 0, none⟩) bq).trans h3, (World.cell?_of_block (a := ⟨q, 1, none⟩) bq).trans h4, h5.grown k h5.size (fun j hj => by injection hj with hj; omega), Nat.lt_of_lt_of_le h6 k.size, Nat.lt_of_lt_of_le h7 k.size⟩
theorem KS.below {p q : Nat} {a x : Int} {l : Bool} {y : Int} {z : Bool} {w W : World} (h : KS p q a x l y z w W) : Below w.heap.size w W := h.2.2.2.2.2.1
theorem KS.drew {p q : Nat} {a x : Int} {l : Bool} {y : Int} {z : Bool} {w W : World} (h : KS p q a x l y z w W) : KS p q a x l y z w W.drew := h.next (below_drew0 (Below.refl _ _))

set_option maxHeartbeats 8000000 in
theorem back_yes (n : Nat) (h1 : 1 ≤ n) (hn : n ≤ 16) (av : Option Addr) (L c : Nat) (hL : L ≤ 40) (G X : Nat → Int) (B : Nat → Bool) (y x : Int) (b : Bool) (g : Nat) (hy : y = g) (hg : g < n) (hx : 0 ≤ x ∧ x ≤ 4) (w : World) (hl : OpsIn w av L G X B) :
    Calls Try.prog 5 #[.int .i64 n, .slice av L c, .agg #[.int .i64 y, .int .i64 x, .bool b]] w fun r w' => r = .returned (.bool true) ∧ Below w.heap.size w w' := by
  subst hy
  replace hl := hide hl
  obtain ⟨mn, hm⟩ : ∃ mn : Nat, (n + 3) / 4 = mn := ⟨_, rfl⟩
  have hm4 : mn ≤ 4 := by omega
  have HM := hide hm
  clear hm
  have hL40 : (L : Int) ≤ 40 := by omega
  have HX := hide (show decide (0 ≤ x ∧ x ≤ 4) = true from decide_eq_true hx)
  have HX2 := hide hx
  clear hx
  go_enter Try.func5, Try.ntmps5
  go_wp2_with fail
  have BX := op_new w (g : Int) x b 44
  refine (made_any n h1 hn av L c hL G X B _ (ops_next hl.out ((Below.refl _ _).alloc (Nat.le_refl _) _))).mono ?_
  rintro r w1 ⟨P, E, R, rfl, hT, -, hP, hE, -, -, -, hb1⟩
  have q1 := hide (below_alloc hb1)
  have BX := hide (BX.next hb1)
  have hE5 : w.heap.size < E := Nat.lt_of_lt_of_le (by simp) hE
  have hE5n : w.heap.size ≠ E := by omega
  have ho := stO_in n G X L
  generalize stO n G X L = o at hT ho
  generalize stL n G X B L = l at hT
  clear hb1 hP
  replace ho := hide ho
  replace hT := hide hT
  go_wp2_with fail
  refine (words_cs mn P E n o l h1 hn HM.out ho.out _ hT.out).mono ?_
  rintro r w2 ⟨g0, cap0, rfl, hg0, C0, hb2⟩
  have C0 := hide C0
  have T2 := hide (hT.out.next hb2)
  have BX := hide (BX.out.next hb2)
  have q2 := hide (below_step q1.out q1.out.size hb2)
  have hg0E : g0 ≠ E := by have := hT.out.2.1; omega
  have k0 : w2.cell? ⟨w.heap.size, 0, none⟩ = some (.int .i64 g) := BX.out.2 0 (by omega)
  go_wp2_with fail
  refine (get_yes P E n g o l hg _ T2.out).mono ?_
  rintro r w3 ⟨rfl, hb3⟩
  have T3 := hide (T2.out.next hb3)
  have BX := hide (BX.out.next hb3)
  have C0 := hide (C0.out.next hb3)
  have q3 := hide (below_step q2.out q2.out.size hb3)
  have k0 : w3.cell? ⟨w.heap.size, 0, none⟩ = some (.int .i64 g) := BX.out.2 0 (by omega)
  have k1 : w3.cell? ⟨w.heap.size, 1, none⟩ = some (.int .i64 x) := BX.out.2 1 (by omega)
  have k2 : w3.cell? ⟨w.heap.size, 2, none⟩ = some (.bool b) := BX.out.2 2 (by omega)
  have k3 := BX.out.1
  go_wp2_with fail
  refine (set_yes P E n g o l x b hg HX.out _ (T3.out.alloc _)).mono ?_
  rintro r w4 ⟨rfl, hT4, hg4⟩
  have hE3 : E < w3.heap.size := T3.out.2.1
  have hE3n : w3.heap.size ≠ E := by omega
  have hwE : w.heap.size ≤ E := by omega
  have hmn : mn + n ≤ 1000 := by omega
  have C4 := hide ((C0.out.alloc _).only hg4 hg0E)
  have BX4 := hide ((BX.out.alloc _).only hg4 hE5n)
  have EN4 := hide ((en_new w3 (o g) (l g) 35).only hg4 hE3n)
  have q4 := hide ((q3.out.alloc q3.out.size (.cells #[.int .i64 (o g), .bool (l g)] 35)).grown hg4 (by have := q3.out.size; simp; omega) (fun j hj => by injection hj with hj; omega))
  have hT4 := hide hT4
  have HO := hide (show decide (0 ≤ o g ∧ o g ≤ 4) = true from decide_eq_true (ho.out g))
  clear hg4 k0 k1 k2
  go_wp2_with fail
  refine (words_cs mn P E n _ _ h1 hn HM.out (upd_in ho.out HX2.out.1 HX2.out.2) _ hT4.out).mono ?_
  rintro r w5 ⟨g1, cap1, rfl, hg1, C1, hb5⟩
  have C1 := hide C1
  have T5 := hide (hT4.out.next hb5)
  have C5 := hide (C4.out.next hb5)
  have q5 := hide (below_step q4.out q4.out.size hb5)
  have BX5 := BX4.out.next hb5
  have EN5 := EN4.out.next hb5
  have KS5 := hide (show KS w.heap.size w3.heap.size g x b (o g) (l g) w w5 from ⟨BX5.2 0 (by omega), BX5.2 1 (by omega), BX5.2 2 (by omega), EN5.2 0 (by omega), EN5.2 1 (by omega), q5.out, BX5.1, EN5.1⟩)
  clear BX5 EN5
  have C1d := hide (show Cs w5.drew g1 (wdV (wdF mn n (upd o g x) (upd l g b))) (mn + n) from C1.out)
  have C5d := hide (show Cs w5.drew g0 (wdV (wdF mn n o l)) (mn + n) from C5.out)
  by_cases hs : o g = x
  · by_cases hs2 : l g = b
    · subst hs
      subst hs2
      go_wp2_with fail
      go_region_held3 (fun W => W.cell? ⟨w.heap.size, 0, none⟩ = some (.int .i64 g) ∧ W.cell? ⟨w.heap.size, 1, none⟩ = some (.int .i64 (o g)) ∧ W.cell? ⟨w.heap.size, 2, none⟩ = some (.bool (l g)) ∧ W.cell? ⟨w3.heap.size, 0, none⟩ = some (.int .i64 (o g)) ∧ W.cell? ⟨w3.heap.size, 1, none⟩ = some (.bool (l g)) ∧ Below w.heap.size w W ∧ w.heap.size < W.heap.size ∧ w3.heap.size < W.heap.size)
        (first | assumption | exact KS.next (by assumption) hb6 | exact KS.only (by assumption) hg7 hwE hE5n hE3n | exact KS.drew KS5.out)
        (first | (go_at_call 20; refine (ints_cs (mn + n) hmn _ _ true (by rw [upd_self, upd_self]; exact eq_self _ _) g1 cap1 g0 cap0 w5.drew C1d.out C5d.out).mono ?_; rintro r w6 ⟨rfl, hb6⟩) | (go_at_call 14; refine (set_yes P E n g _ _ (o g) (l g) hg HO.out _ ((tb_drew T5.out).next hb6)).mono ?_; rintro r w7 ⟨rfl, hT7, hg7⟩))
      have q7 := hide (KS.below (show KS w.heap.size w3.heap.size g (o g) (l g) (o g) (l g) w w7 by assumption))
      rw [upd_back, upd_back] at hT7
      have C7 := hide ((C5d.out.next hb6).only hg7 hg0E)
      replace hT7 := hide hT7
      clear hb6 hg7
      go_wp2_with fail
      refine (words_cs mn P E n o l h1 hn HM.out ho.out _ hT7.out).mono ?_
      rintro r w8 ⟨g2, cap2, rfl, hg2, C2, hb8⟩
      have C8 := hide (C7.out.next hb8)
      have q8 := hide (below_step q7.out q7.out.size hb8)
      go_wp2_with fail
      refine (ints_cs (mn + n) hmn _ _ true (eq_self _ _) g2 cap2 g0 cap0 _ C2 C8.out).mono ?_
      rintro r w9 ⟨rfl, hb9⟩
      have q9 := hide (below_step q8.out q8.out.size hb9)
      go_wp2_with fail
      refine (awake_ok _).mono ?_
      rintro r w10 ⟨rfl, hb10⟩
      go_wp2
      go_ret
      exact ⟨rfl, below_step q9.out q9.out.size hb10⟩
    · have HD := hide (wd_differ (mn := mn) (l := l) (b := b) ho.out HX2.out.1 HX2.out.2 hg (fun e => hs2 e.2))
      have f0 : (l g == b) = false := by simpa using hs2
      replace hs2 := hide hs2
      subst hs
      go_wp2_with fail
      go_region_held3 (fun W => W.cell? ⟨w.heap.size, 0, none⟩ = some (.int .i64 g) ∧ W.cell? ⟨w.heap.size, 1, none⟩ = some (.int .i64 (o g)) ∧ W.cell? ⟨w.heap.size, 2, none⟩ = some (.bool b) ∧ W.cell? ⟨w3.heap.size, 0, none⟩ = some (.int .i64 (o g)) ∧ W.cell? ⟨w3.heap.size, 1, none⟩ = some (.bool (l g)) ∧ Below w.heap.size w W ∧ w.heap.size < W.heap.size ∧ w3.heap.size < W.heap.size)
        (first | assumption | exact KS.next (by assumption) hb6 | exact KS.only (by assumption) hg7 hwE hE5n hE3n | exact KS.drew KS5.out)
        (first | (go_at_call 20; refine (ints_cs (mn + n) hmn _ _ false HD.out g1 cap1 g0 cap0 w5.drew C1d.out C5d.out).mono ?_; rintro r w6 ⟨rfl, hb6⟩) | (go_at_call 14; refine (set_yes P E n g _ _ (o g) (l g) hg HO.out _ ((tb_drew T5.out).next hb6)).mono ?_; rintro r w7 ⟨rfl, hT7, hg7⟩))
      have q7 := hide (KS.below (show KS w.heap.size w3.heap.size g (o g) b (o g) (l g) w w7 by assumption))
      rw [upd_back, upd_back] at hT7
      have C7 := hide ((C5d.out.next hb6).only hg7 hg0E)
      replace hT7 := hide hT7
      clear hb6 hg7
      go_wp2_with fail
      refine (words_cs mn P E n o l h1 hn HM.out ho.out _ hT7.out).mono ?_
      rintro r w8 ⟨g2, cap2, rfl, hg2, C2, hb8⟩
      have C8 := hide (C7.out.next hb8)
      have q8 := hide (below_step q7.out q7.out.size hb8)
      go_wp2_with fail
      refine (ints_cs (mn + n) hmn _ _ true (eq_self _ _) g2 cap2 g0 cap0 _ C2 C8.out).mono ?_
      rintro r w9 ⟨rfl, hb9⟩
      have q9 := hide (below_step q8.out q8.out.size hb9)
      go_wp2_with fail
      refine (awake_ok _).mono ?_
      rintro r w10 ⟨rfl, hb10⟩
      go_wp2
      go_ret
      exact ⟨rfl, below_step q9.out q9.out.size hb10⟩
  · have HD := hide (wd_differ (mn := mn) (l := l) (b := b) ho.out HX2.out.1 HX2.out.2 hg (fun e => hs e.1))
    have f0 : (o g == x) = false := by simpa using hs
    replace hs := hide hs
    go_wp2_with fail
    go_region_held3 (fun W => W.cell? ⟨w.heap.size, 0, none⟩ = some (.int .i64 g) ∧ W.cell? ⟨w.heap.size, 1, none⟩ = some (.int .i64 x) ∧ W.cell? ⟨w.heap.size, 2, none⟩ = some (.bool b) ∧ W.cell? ⟨w3.heap.size, 0, none⟩ = some (.int .i64 (o g)) ∧ W.cell? ⟨w3.heap.size, 1, none⟩ = some (.bool (l g)) ∧ Below w.heap.size w W ∧ w.heap.size < W.heap.size ∧ w3.heap.size < W.heap.size)
      (first | assumption | exact KS.next (by assumption) hb6 | exact KS.only (by assumption) hg7 hwE hE5n hE3n | exact KS.drew KS5.out)
      (first | (go_at_call 20; refine (ints_cs (mn + n) hmn _ _ false HD.out g1 cap1 g0 cap0 w5.drew C1d.out C5d.out).mono ?_; rintro r w6 ⟨rfl, hb6⟩) | (go_at_call 14; refine (set_yes P E n g _ _ (o g) (l g) hg HO.out _ ((tb_drew T5.out).next hb6)).mono ?_; rintro r w7 ⟨rfl, hT7, hg7⟩))
    have q7 := hide (KS.below (show KS w.heap.size w3.heap.size g x b (o g) (l g) w w7 by assumption))
    rw [upd_back, upd_back] at hT7
    have C7 := hide ((C5d.out.next hb6).only hg7 hg0E)
    replace hT7 := hide hT7
    clear hb6 hg7
    go_wp2_with fail
    refine (words_cs mn P E n o l h1 hn HM.out ho.out _ hT7.out).mono ?_
    rintro r w8 ⟨g2, cap2, rfl, hg2, C2, hb8⟩
    have C8 := hide (C7.out.next hb8)
    have q8 := hide (below_step q7.out q7.out.size hb8)
    go_wp2_with fail
    refine (ints_cs (mn + n) hmn _ _ true (eq_self _ _) g2 cap2 g0 cap0 _ C2 C8.out).mono ?_
    rintro r w9 ⟨rfl, hb9⟩
    have q9 := hide (below_step q8.out q8.out.size hb9)
    go_wp2_with fail
    refine (awake_ok _).mono ?_
    rintro r w10 ⟨rfl, hb10⟩
    go_wp2
    go_ret
    exact ⟨rfl, below_step q9.out q9.out.size hb10⟩
end Go.Proofs.Ytdpdofdfdjcpoaa
