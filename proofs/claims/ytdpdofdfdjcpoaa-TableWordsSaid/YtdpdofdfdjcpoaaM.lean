/- TableBack, walked. -/
import Derived.Test.YtdpdofdfdjcpoaaJ
import Derived.WalkKit
import Derived.WalkSpells
import Derived.ProofKit
import Derived.Outline
import Derived.Handy
import Derived.RowKit3
import Derived.BigQuiet
import Derived.Deep.QuietTactic
import Derived.Deep.RegionHeld3
import Derived.Deep.Draws
import Derived.RegionTactic
import Derived.BigRegion
import Derived.IntWalk
import Derived.LoopTactic
import Derived.OwnWalk
import Derived.Laws.AppendOwn
import Derived.Laws.OwnMore
import Derived.Laws.MakeOwn
import Derived.Laws.Pointers
import Derived.Maps.AppendAt
import Derived.Below
namespace Go.Proofs.Ytdpdofdfdjcpoaa
open Go.RowKit
set_option linter.unusedVariables false
set_option maxRecDepth 100000

def Cs (W : World) (b : Nat) (f : Nat → Value) (m : Nat) : Prop := b < W.heap.size ∧ ∀ j, j < m → W.cell? ⟨b, j, none⟩ = some (f j)
theorem Cs.next {W w' : World} {b m : Nat} {f : Nat → Value} (h : Cs W b f m) (k : Below W.heap.size W w') : Cs w' b f m := ⟨Nat.lt_of_lt_of_le h.1 k.size, fun j hj => cell_next k h.1 (h.2 j hj)⟩
theorem Cs.alloc {W : World} {b m : Nat} {f : Nat → Value} (h : Cs W b f m) (o : Obj) : Cs (W.alloc o) b f m := h.next ((Below.refl _ _).alloc (Nat.le_refl _) _)
theorem Cs.only {W w' : World} {b E m : Nat} {f : Nat → Value} (h : Cs W b f m) (k : W.grownBy w' (some E)) (hne : b ≠ E) : Cs w' b f m :=
  ⟨Nat.lt_of_lt_of_le h.1 k.size, fun j hj => (World.cell?_of_block (a := ⟨b, j, none⟩) (k.block b h.1 (fun e => hne (by injection e)))).trans (h.2 j hj)⟩
def opF (a x : Int) (l : Bool) (j : Nat) : Value := [Value.int .i64 a, .int .i64 x, .bool l].getD j (.bool false)
def enF (x : Int) (l : Bool) (j : Nat) : Value := [Value.int .i64 x, .bool l].getD j (.bool false)
def wdV (f : Nat → Int) (j : Nat) : Value := .int .i64 (f j)
theorem op_new (w : World) (a x : Int) (l : Bool) (t : TypeId) : Cs (w.alloc (.cells #[.int .i64 a, .int .i64 x, .bool l] t)) w.heap.size (opF a x l) 3 := by
  refine ⟨by simp, fun j hj => ?_⟩
  have : j = 0 ∨ j = 1 ∨ j = 2 := by omega
  rcases this with rfl | rfl | rfl <;> simp [opF, go_sem]
theorem en_new (w : World) (x : Int) (l : Bool) (t : TypeId) : Cs (w.alloc (.cells #[.int .i64 x, .bool l] t)) w.heap.size (enF x l) 2 := by
  refine ⟨by simp, fun j hj => ?_⟩
  have : j = 0 ∨ j = 1 := by omega
  rcases this with rfl | rfl <;> simp [enF, go_sem]
theorem ops_next {w w' : World} {av : Option Addr} {L : Nat} {G X : Nat → Int} {B : Nat → Bool} (h : OpsIn w av L G X B) (k : Below w.heap.size w w') : OpsIn w' av L G X B := by
  rcases h with h | ⟨b, off, e, hb, hc⟩
  · exact .inl h
  · exact .inr ⟨b, off, e, Nat.lt_of_lt_of_le hb k.size, fun i hi => ⟨cell_next k hb (hc i hi).1, cell_next k hb (hc i hi).2.1, cell_next k hb (hc i hi).2.2⟩⟩
theorem words_cs (mn P E n : Nat) (o : Nat → Int) (l : Nat → Bool) (h1 : 1 ≤ n) (hn : n ≤ 16) (hm : (n + 3) / 4 = mn) (ho : ∀ j, 0 ≤ o j ∧ o j ≤ 4) (w : World) (hT : Tb w P E n o l) :
    Calls Try.prog 19 #[.pointer (some ⟨P, 0, none⟩)] w fun r w' => ∃ g cap, r = .returned (.slice (some ⟨g, 0, none⟩) (mn + n) cap) ∧ w.heap.size ≤ g ∧ Cs w' g (wdV (wdF mn n o l)) (mn + n) ∧ Below w.heap.size w w' := by
  refine (words_any mn P E n o l h1 hn hm (fun j _ => ho j) w hT).mono ?_
  rintro r w1 ⟨v, rfl, hown, hb⟩
  obtain ⟨g, cap, rfl, hg1, hg2, hc⟩ := words_row (mn := mn) hown (by omega)
  exact ⟨g, cap, rfl, hg1, ⟨hg2, hc⟩, hb⟩
theorem ints_cs (n : Nat) (hn : n ≤ 1000) (f g : Nat → Int) (v : Bool) (hv : eqB f g n = v) (b1 c1 b2 c2 : Nat) (w : World) (h1 : Cs w b1 (wdV f) n) (h2 : Cs w b2 (wdV g) n) :
    Calls Try.prog 20 #[.slice (some ⟨b1, 0, none⟩) n c1, .slice (some ⟨b2, 0, none⟩) n c2] w fun r w' => r = .returned (.bool v) ∧ Below w.heap.size w w' := ints_v n hn f g v hv b1 c1 b2 c2 w h1.1 h2.1 h1.2 h2.2
theorem eq_self (f : Nat → Int) (n : Nat) : eqB f f n = true := (eqB_iff f f n).2 fun _ _ => rfl
theorem upd_self {α : Type} (f : Nat → α) (j : Nat) : upd f j (f j) = f := by funext i; unfold upd; split <;> simp_all
theorem upd_back {α : Type} (f : Nat → α) (j : Nat) (x : α) : upd (upd f j x) j (f j) = f := by funext i; unfold upd; split <;> simp_all
theorem upd_in {f : Nat → Int} {j : Nat} {x : Int} (h : ∀ i, 0 ≤ f i ∧ f i ≤ 4) (hx0 : 0 ≤ x) (hx : x ≤ 4) : ∀ i, 0 ≤ upd f j x i ∧ upd f j x i ≤ 4 := by
  intro i; unfold upd; split
  · exact ⟨hx0, hx⟩
  · exact h i
theorem wd_differ {mn n g : Nat} {o : Nat → Int} {l : Nat → Bool} {x : Int} {b : Bool} (ho : ∀ j, 0 ≤ o j ∧ o j ≤ 4) (hx0 : 0 ≤ x) (hx : x ≤ 4) (hg : g < n) (h : ¬ (o g = x ∧ l g = b)) : eqB (wdF mn n (upd o g x) (upd l g b)) (wdF mn n o l) (mn + n) = false := by
  refine eqB_no (j := mn + g) (by omega) ?_
  have := ho g
  rw [wd_own, wd_own]
  have e1 : upd o g x g = x := by simp [upd]
  have e2 : upd l g b g = b := by simp [upd]
  rw [e1, e2]
  intro e
  apply h
  cases b <;> cases hl : l g <;> simp [hl] at e ⊢ <;> omega

set_option maxHeartbeats 8000000 in
theorem back_out (n : Nat) (h1 : 1 ≤ n) (hn : n ≤ 16) (av : Option Addr) (L c : Nat) (hL : L ≤ 40) (G X : Nat → Int) (B : Nat → Bool) (y x : Int) (b : Bool) (hy : ¬ (0 ≤ y ∧ y < n)) (w : World) (hl : OpsIn w av L G X B) :
    Calls Try.prog 5 #[.int .i64 n, .slice av L c, .agg #[.int .i64 y, .int .i64 x, .bool b]] w fun r w' => r = .returned (.bool true) ∧ Below w.heap.size w w' := by
  replace hl := hide hl
  obtain ⟨mn, hm⟩ : ∃ mn : Nat, (n + 3) / 4 = mn := ⟨_, rfl⟩
  have hm4 : mn ≤ 4 := by omega
  have HM := hide hm
  clear hm
  have hL40 : (L : Int) ≤ 40 := by omega
  replace hy := hide hy
  go_enter Try.func5, Try.ntmps5
  go_wp2_with fail
  have BX := op_new w y x b 44
  refine (made_any n h1 hn av L c hL G X B _ (ops_next hl.out ((Below.refl _ _).alloc (Nat.le_refl _) _))).mono ?_
  rintro r w1 ⟨P, E, R, rfl, hT, -, hP, hE, -, -, -, hb1⟩
  have q1 := hide (below_alloc hb1)
  have BX := hide (BX.next hb1)
  have hE5 : w.heap.size < E := Nat.lt_of_lt_of_le (by simp) hE
  have hE5n : w.heap.size ≠ E := by omega
  have ho := stO_in n G X L
  generalize stO n G X L = o at hT ho
  generalize stL n G X B L = l at hT
  clear hb1 hP
  replace ho := hide ho
  replace hT := hide hT
  go_wp2_with fail
  refine (words_cs mn P E n o l h1 hn HM.out ho.out _ hT.out).mono ?_
  rintro r w2 ⟨g0, cap0, rfl, hg0, C0, hb2⟩
  have C0 := hide C0
  have T2 := hide (hT.out.next hb2)
  have BX := hide (BX.out.next hb2)
  have q2 := hide (below_step q1.out q1.out.size hb2)
  have hg0E : g0 ≠ E := by have := hT.out.2.1; omega
  have k0 : w2.cell? ⟨w.heap.size, 0, none⟩ = some (.int .i64 y) := BX.out.2 0 (by omega)
  go_wp2_with fail
  refine (get_no P E n y o l hy.out _ T2.out).mono ?_
  rintro r w3 ⟨rfl, hb3⟩
  have T3 := hide (T2.out.next hb3)
  have BX := hide (BX.out.next hb3)
  have C0 := hide (C0.out.next hb3)
  have q3 := hide (below_step q2.out q2.out.size hb3)
  have k0 : w3.cell? ⟨w.heap.size, 0, none⟩ = some (.int .i64 y) := BX.out.2 0 (by omega)
  have k1 : w3.cell? ⟨w.heap.size, 1, none⟩ = some (.int .i64 x) := BX.out.2 1 (by omega)
  have k2 : w3.cell? ⟨w.heap.size, 2, none⟩ = some (.bool b) := BX.out.2 2 (by omega)
  have k3 := BX.out.1
  go_wp2_with fail
  refine (set_out P E n y o l x b hy.out _ (T3.out.alloc _)).mono ?_
  rintro r w4 ⟨rfl, hb4⟩
  have T4 := hide ((T3.out.alloc _).next hb4)
  have C4 := hide ((C0.out.alloc _).next hb4)
  have q4 := hide (below_step q3.out q3.out.size (below_alloc hb4))
  go_wp2_with fail
  refine (words_cs mn P E n o l h1 hn HM.out ho.out _ T4.out).mono ?_
  rintro r w5 ⟨g1, cap1, rfl, hg1, C1, hb5⟩
  have C5 := hide (C4.out.next hb5)
  have q5 := hide (below_step q4.out q4.out.size hb5)
  go_wp2_with fail
  refine (ints_cs (mn + n) (by omega) _ _ true (eq_self _ _) g1 cap1 g0 cap0 _ C1 C5.out).mono ?_
  rintro r w6 ⟨rfl, hb6⟩
  have q6 := hide (below_step q5.out q5.out.size hb6)
  go_wp2_with fail
  refine (awake_ok _).mono ?_
  rintro r w7 ⟨rfl, hb7⟩
  go_wp2
  go_ret
  exact ⟨rfl, below_step q6.out q6.out.size hb7⟩

set_option maxHeartbeats 8000000 in
theorem back_bad (n : Nat) (h1 : 1 ≤ n) (hn : n ≤ 16) (av : Option Addr) (L c : Nat) (hL : L ≤ 40) (G X : Nat → Int) (B : Nat → Bool) (y x : Int) (b : Bool) (g : Nat) (hy : y = g) (hg : g < n) (hx : ¬ (0 ≤ x ∧ x ≤ 4)) (w : World) (hl : OpsIn w av L G X B) :
    Calls Try.prog 5 #[.int .i64 n, .slice av L c, .agg #[.int .i64 y, .int .i64 x, .bool b]] w fun r w' => r = .returned (.bool true) ∧ Below w.heap.size w w' := by
  subst hy
  replace hl := hide hl
  obtain ⟨mn, hm⟩ : ∃ mn : Nat, (n + 3) / 4 = mn := ⟨_, rfl⟩
  have hm4 : mn ≤ 4 := by omega
  have HM := hide hm
  clear hm
  have hL40 : (L : Int) ≤ 40 := by omega
  have HX := hide (decide_eq_false hx)
  replace hx := hide hx
  go_enter Try.func5, Try.ntmps5
  go_wp2_with fail
  have BX := op_new w (g : Int) x b 44
  refine (made_any n h1 hn av L c hL G X B _ (ops_next hl.out ((Below.refl _ _).alloc (Nat.le_refl _) _))).mono ?_
  rintro r w1 ⟨P, E, R, rfl, hT, -, hP, hE, -, -, -, hb1⟩
  have q1 := hide (below_alloc hb1)
  have BX := hide (BX.next hb1)
  have hE5 : w.heap.size < E := Nat.lt_of_lt_of_le (by simp) hE
  have hE5n : w.heap.size ≠ E := by omega
  have ho := stO_in n G X L
  generalize stO n G X L = o at hT ho
  generalize stL n G X B L = l at hT
  clear hb1 hP
  replace ho := hide ho
  replace hT := hide hT
  go_wp2_with fail
  refine (words_cs mn P E n o l h1 hn HM.out ho.out _ hT.out).mono ?_
  rintro r w2 ⟨g0, cap0, rfl, hg0, C0, hb2⟩
  have C0 := hide C0
  have T2 := hide (hT.out.next hb2)
  have BX := hide (BX.out.next hb2)
  have q2 := hide (below_step q1.out q1.out.size hb2)
  have hg0E : g0 ≠ E := by have := hT.out.2.1; omega
  have k0 : w2.cell? ⟨w.heap.size, 0, none⟩ = some (.int .i64 g) := BX.out.2 0 (by omega)
  go_wp2_with fail
  refine (get_yes P E n g o l hg _ T2.out).mono ?_
  rintro r w3 ⟨rfl, hb3⟩
  have T3 := hide (T2.out.next hb3)
  have BX := hide (BX.out.next hb3)
  have C0 := hide (C0.out.next hb3)
  have q3 := hide (below_step q2.out q2.out.size hb3)
  have k0 : w3.cell? ⟨w.heap.size, 0, none⟩ = some (.int .i64 g) := BX.out.2 0 (by omega)
  have k1 : w3.cell? ⟨w.heap.size, 1, none⟩ = some (.int .i64 x) := BX.out.2 1 (by omega)
  have k2 : w3.cell? ⟨w.heap.size, 2, none⟩ = some (.bool b) := BX.out.2 2 (by omega)
  have k3 := BX.out.1
  go_wp2_with fail
  refine (set_bad P E n g o l x b hg HX.out _ (T3.out.alloc _)).mono ?_
  rintro r w4 ⟨rfl, hb4⟩
  have T4 := hide ((T3.out.alloc _).next hb4)
  have C4 := hide ((C0.out.alloc _).next hb4)
  have q4 := hide (below_step q3.out q3.out.size (below_alloc hb4))
  go_wp2_with fail
  refine (words_cs mn P E n o l h1 hn HM.out ho.out _ T4.out).mono ?_
  rintro r w5 ⟨g1, cap1, rfl, hg1, C1, hb5⟩
  have C5 := hide (C4.out.next hb5)
  have q5 := hide (below_step q4.out q4.out.size hb5)
  go_wp2_with fail
  refine (ints_cs (mn + n) (by omega) _ _ true (eq_self _ _) g1 cap1 g0 cap0 _ C1 C5.out).mono ?_
  rintro r w6 ⟨rfl, hb6⟩
  have q6 := hide (below_step q5.out q5.out.size hb6)
  go_wp2_with fail
  refine (awake_ok _).mono ?_
  rintro r w7 ⟨rfl, hb7⟩
  go_wp2
  go_ret
  exact ⟨rfl, below_step q6.out q6.out.size hb7⟩
end Go.Proofs.Ytdpdofdfdjcpoaa
