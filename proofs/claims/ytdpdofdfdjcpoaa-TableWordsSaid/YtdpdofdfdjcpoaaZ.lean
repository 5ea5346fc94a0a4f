/- TableWords, walked. -/
import Derived.Test.YtdpdofdfdjcpoaaY
import Derived.WalkKit
import Derived.WalkSpells
import Derived.ProofKit
import Derived.Outline
import Derived.Handy
import Derived.RowKit3
import Derived.BigQuiet
import Derived.Deep.QuietTactic
import Derived.Deep.RegionHeld3
import Derived.Deep.Draws
import Derived.RegionTactic
import Derived.BigRegion
import Derived.IntWalk
import Derived.LoopTactic
import Derived.OwnWalk
import Derived.Laws.AppendOwn
import Derived.Laws.OwnMore
import Derived.Laws.MakeOwn
import Derived.Laws.Pointers
import Derived.Maps.AppendAt
import Derived.Below
import Derived.Deep.Slices
import Derived.Lib.SmallJoins
import Derived.Deep.Fields
import Derived.ChangeSame
namespace Go.Proofs.Ytdpdofdfdjcpoaa
open Go.Joins Go.ChangeShapes Go.WideShapes Go.RowKit Go.Deep
set_option linter.unusedVariables false
set_option maxRecDepth 100000

theorem ops_cut {w : World} {av : Option Addr} {L i : Nat} {G X : Nat → Int} {B : Nat → Bool} (h : OpsIn w av L G X B) (hi : i ≤ L) : OpsIn w av i G X B := by
  rcases h with h | ⟨b, off, e, hb, hc⟩
  · exact .inl (by omega)
  · exact .inr ⟨b, off, e, hb, fun j hj => hc j (by omega)⟩
def TwRel (L : Nat) (w : World) (v : Value) (wr : World) : Prop := ∃ i : Nat, i ≤ L + 1 ∧ v = .int .i64 i ∧ Below w.heap.size w wr

set_option maxHeartbeats 8000000 in
theorem tw_some (n : Nat) (h1 : 1 ≤ n) (hn : n ≤ 16) (a : Addr) (L c : Nat) (hL : L ≤ 40) (hc : L ≤ c) (G X : Nat → Int) (B : Nat → Bool) (w : World) (hl : OpsIn w (some a) L G X B) :
    Calls Try.prog 3 #[.int .i64 n, .slice (some a) L c] w fun r w' => r = .returned (.bool true) ∧ Below w.heap.size w w' := by
  replace hl := hide hl
  obtain ⟨mn, hm⟩ : ∃ mn : Nat, (n + 3) / 4 = mn := ⟨_, rfl⟩
  have HM := hide hm
  clear hm
  have hL40 : (L : Int) ≤ 40 := by omega
  go_enter Try.func3, Try.ntmps3
  go_wp2
  go_loopw [7] (fun v7 wr => TwRel L w v7 wr) (fun v7 _ => L + 1 - (intOf v7).toNat)
  case atStart => exact ⟨0, by omega, rfl, Below.refl _ _⟩
  case round =>
    obtain ⟨i, hi, rfl, hB⟩ := hrel
    by_cases hlt : i ≤ L
    · have hlt2 : (i : Int) ≤ L := by omega
      have hic : i ≤ c := by omega
      have hic2 : (i : Int) ≤ c := by omega
      go_wp2_with fail
      refine (made_any n h1 hn (some a) i c (by omega) G X B _ (ops_next (ops_cut hl.out hlt) hB)).mono ?_
      rintro r w1 ⟨P, E, R, rfl, hT, hR, hP, hE, hRR, hPR, hER, hb1⟩
      have q1 := hide (below_step hB hB.size hb1)
      have hwE : w.heap.size ≤ E := Nat.le_trans hB.size hE
      have ho := stO_in n G X i
      generalize stO n G X i = o at hT hR ho
      generalize stL n G X B i = l at hT hR
      replace hT := hide hT
      replace hR := hide hR
      replace ho := hide ho
      clear hb1 hP hRR hPR
      go_wp2_with fail
      refine (same_any mn P E R n o l h1 hn HM.out ho.out _ hT.out hR.out).mono ?_
      rintro r w2 ⟨rfl, hb2⟩
      have T2 := hide (hT.out.next hb2)
      have R2 := hide (hR.out.next hb2)
      have q2 := hide (below_step q1.out q1.out.size hb2)
      go_wp2_with fail
      refine (copy_any P E n o l hn h1 _ T2.out).mono ?_
      rintro r w3 ⟨P2, E2, rfl, hTB, hP2, hEE, hb3⟩
      have hEP2 : P2 ≠ E := by have := T2.out.2.1; omega
      have hEE2 : E2 ≠ E := by have := T2.out.2.1; omega
      have TB3 := hide hTB
      have T3 := hide (T2.out.next hb3)
      have R3 := hide (R2.out.next hb3)
      have q3 := hide (below_step q2.out q2.out.size hb3)
      clear hTB hP2 hEE
      go_wp2_with fail
      refine (same_any mn P2 E2 R n o l h1 hn HM.out ho.out _ TB3.out R3.out).mono ?_
      rintro r w4 ⟨rfl, hb4⟩
      have TB4 := hide (TB3.out.next hb4)
      have T4 := hide (T3.out.next hb4)
      have R4 := hide (R3.out.next hb4)
      have q4 := hide (below_step q3.out q3.out.size hb4)
      go_wp2_with fail
      refine (set_yes P E n 0 o l 3 true (by omega) (by decide) _ T4.out).mono ?_
      rintro r w5 ⟨rfl, hT5, hg5⟩
      have TB5 := hide (TB4.out.only hg5 hEP2 hEE2)
      have R5 := hide (R4.out.only hg5 (fun e => hER e.symm))
      have q5 := hide (q4.out.grown hg5 q4.out.size (fun j hj => by injection hj with hj; omega))
      clear hT5 hg5
      go_wp2_with fail
      refine (same_any mn P2 E2 R n o l h1 hn HM.out ho.out _ TB5.out R5.out).mono ?_
      rintro r w6 ⟨rfl, hb6⟩
      have q6 := hide (below_step q5.out q5.out.size hb6)
      go_wp2
      go_roundw
      case rel => exact ⟨i + 1, by omega, int_eq (by omega), q6.out⟩
      case measure => simp [intOf]; omega
    · have hlt2 : ¬ (i : Int) ≤ L := by omega
      have FB := hide hB
      go_wp2_with fail
      refine (awake_ok _).mono ?_
      rintro r w1 ⟨rfl, hb1⟩
      go_wp2
      go_ret
      exact ⟨rfl, below_step FB.out FB.out.size hb1⟩

set_option maxHeartbeats 8000000 in
theorem tw_none (n : Nat) (h1 : 1 ≤ n) (hn : n ≤ 16)  (G X : Nat → Int) (B : Nat → Bool) (w : World) (hl : OpsIn w none 0 G X B) :
    Calls Try.prog 3 #[.int .i64 n, .slice none 0 0] w fun r w' => r = .returned (.bool true) ∧ Below w.heap.size w w' := by
  replace hl := hide hl
  obtain ⟨mn, hm⟩ : ∃ mn : Nat, (n + 3) / 4 = mn := ⟨_, rfl⟩
  have HM := hide hm
  clear hm
  go_enter Try.func3, Try.ntmps3
  go_wp2
  go_loopw [7] (fun v7 wr => TwRel 0 w v7 wr) (fun v7 _ => 0 + 1 - (intOf v7).toNat)
  case atStart => exact ⟨0, by omega, rfl, Below.refl _ _⟩
  case round =>
    obtain ⟨i, hi, rfl, hB⟩ := hrel
    by_cases hlt : i ≤ 0
    · have hlt2 : (i : Int) ≤ 0 := by omega
      have hic : i ≤ 0 := by omega
      have hic2 : (i : Int) ≤ 0 := by omega
      have hi0 : i = 0 := by omega
      subst hi0
      go_wp2_with fail
      refine (made_any n h1 hn none 0 0 (by omega) G X B _ (ops_next (ops_cut hl.out hlt) hB)).mono ?_
      rintro r w1 ⟨P, E, R, rfl, hT, hR, hP, hE, hRR, hPR, hER, hb1⟩
      have q1 := hide (below_step hB hB.size hb1)
      have hwE : w.heap.size ≤ E := Nat.le_trans hB.size hE
      have ho := stO_in n G X 0
      generalize stO n G X 0 = o at hT hR ho
      generalize stL n G X B 0 = l at hT hR
      replace hT := hide hT
      replace hR := hide hR
      replace ho := hide ho
      clear hb1 hP hRR hPR
      go_wp2_with fail
      refine (same_any mn P E R n o l h1 hn HM.out ho.out _ hT.out hR.out).mono ?_
      rintro r w2 ⟨rfl, hb2⟩
      have T2 := hide (hT.out.next hb2)
      have R2 := hide (hR.out.next hb2)
      have q2 := hide (below_step q1.out q1.out.size hb2)
      go_wp2_with fail
      refine (copy_any P E n o l hn h1 _ T2.out).mono ?_
      rintro r w3 ⟨P2, E2, rfl, hTB, hP2, hEE, hb3⟩
      have hEP2 : P2 ≠ E := by have := T2.out.2.1; omega
      have hEE2 : E2 ≠ E := by have := T2.out.2.1; omega
      have TB3 := hide hTB
      have T3 := hide (T2.out.next hb3)
      have R3 := hide (R2.out.next hb3)
      have q3 := hide (below_step q2.out q2.out.size hb3)
      clear hTB hP2 hEE
      go_wp2_with fail
      refine (same_any mn P2 E2 R n o l h1 hn HM.out ho.out _ TB3.out R3.out).mono ?_
      rintro r w4 ⟨rfl, hb4⟩
      have TB4 := hide (TB3.out.next hb4)
      have T4 := hide (T3.out.next hb4)
      have R4 := hide (R3.out.next hb4)
      have q4 := hide (below_step q3.out q3.out.size hb4)
      go_wp2_with fail
      refine (set_yes P E n 0 o l 3 true (by omega) (by decide) _ T4.out).mono ?_
      rintro r w5 ⟨rfl, hT5, hg5⟩
      have TB5 := hide (TB4.out.only hg5 hEP2 hEE2)
      have R5 := hide (R4.out.only hg5 (fun e => hER e.symm))
      have q5 := hide (q4.out.grown hg5 q4.out.size (fun j hj => by injection hj with hj; omega))
      clear hT5 hg5
      go_wp2_with fail
      refine (same_any mn P2 E2 R n o l h1 hn HM.out ho.out _ TB5.out R5.out).mono ?_
      rintro r w6 ⟨rfl, hb6⟩
      have q6 := hide (below_step q5.out q5.out.size hb6)
      go_wp2
      go_roundw
      case rel => exact ⟨0 + 1, by omega, int_eq (by omega), q6.out⟩
      case measure => simp [intOf]
    · have hlt2 : ¬ (i : Int) ≤ 0 := by omega
      have FB := hide hB
      go_wp2_with fail
      refine (awake_ok _).mono ?_
      rintro r w1 ⟨rfl, hb1⟩
      go_wp2
      go_ret
      exact ⟨rfl, below_step FB.out FB.out.size hb1⟩

theorem tw_long (gr : Int) (av : Option Addr) (L c : Nat) (hL : L ≤ maxLen) (h : 40 < L) (w : World) : Calls Try.prog 3 #[.int .i64 gr, .slice av L c] w fun r w' => r = .returned (.bool true) ∧ Below w.heap.size w w' := by
  unfold maxLen at hL
  have h3 : 40 < (L : Int) := by omega
  go_enter Try.func3, Try.ntmps3
  go_wp2_with fail
  refine (awake_ok _).mono ?_
  rintro r w1 ⟨rfl, hb⟩
  go_wp2
  go_ret
  exact ⟨rfl, hb⟩
theorem tw_bad (gr : Int) (av : Option Addr) (L c : Nat) (hL : L ≤ 40) (h : ¬ (1 ≤ gr ∧ gr ≤ 16)) (w : World) : Calls Try.prog 3 #[.int .i64 gr, .slice av L c] w fun r w' => r = .returned (.bool true) ∧ Below w.heap.size w w' := by
  have H := hide (decide_eq_false h)
  have hL40 : (L : Int) ≤ 40 := by omega
  by_cases h0 : gr < 1
  · clear h
    go_enter Try.func3, Try.ntmps3
    go_wp2_with fail
    refine (new_no gr H.out _).mono ?_
    rintro r w1 ⟨rfl, rfl⟩
    go_wp2_with fail
    refine (awake_ok _).mono ?_
    rintro r w2 ⟨rfl, hb⟩
    go_wp2
    go_ret
    exact ⟨rfl, hb⟩
  · have h2 : 16 < gr := by omega
    clear h
    go_enter Try.func3, Try.ntmps3
    go_wp2_with fail
    refine (new_no gr H.out _).mono ?_
    rintro r w1 ⟨rfl, rfl⟩
    go_wp2_with fail
    refine (awake_ok _).mono ?_
    rintro r w2 ⟨rfl, hb⟩
    go_wp2
    go_ret
    exact ⟨rfl, hb⟩
theorem ops_form {H : Type} {enc : TypeId × Value → H} {W : World} {base : Nat} {spare : Nat → Bool} {held : Bool} {av : Option Addr} {L c : Nat} {d : DataW H} {p : List MemPlace} (h : DataW.Trod enc Try.prog W base spare held 22 (.slice av L c) d p) :
    (av = none ∧ L = 0 ∧ c = 0) ∨ ((∃ a, av = some a) ∧ L ≤ c) := by
  obtain ⟨fuel, hf⟩ := h
  rcases open_slice Try.underlying22 hf with ⟨hcs, _⟩ | ⟨a, len, cap, m, n, D, Pl, hcs, hb, hl, hm, hmm, hx, hi⟩
  · simp [Value.cells] at hcs
    exact .inl hcs
  · simp [Value.cells] at hcs
    obtain ⟨rfl, rfl, rfl⟩ := hcs
    exact .inr ⟨⟨_, rfl⟩, hl⟩
theorem tw_law (gr : Int) (av : Option Addr) (L c : Nat) (hL : L ≤ maxLen) (hf : (av = none ∧ L = 0 ∧ c = 0) ∨ ((∃ a, av = some a) ∧ L ≤ c)) (G X : Nat → Int) (B : Nat → Bool) (w : World) (hl : OpsIn w av L G X B) : Calls Try.prog 3 #[.int .i64 gr, .slice av L c] w fun r w' => r = .returned (.bool true) ∧ Below w.heap.size w w' := by
  by_cases h : L ≤ 40
  · by_cases h2 : 1 ≤ gr ∧ gr ≤ 16
    · obtain ⟨n, rfl⟩ : ∃ n : Nat, gr = n := ⟨gr.toNat, by omega⟩
      rcases hf with ⟨rfl, rfl, rfl⟩ | ⟨⟨a, rfl⟩, hc⟩
      · exact tw_none n (by omega) (by omega) G X B w hl
      · exact tw_some n (by omega) (by omega) a L c h hc G X B w hl
    · exact tw_bad gr av L c h h2 w
  · exact tw_long gr av L c hL (by omega) w
end Go.Proofs.Ytdpdofdfdjcpoaa
