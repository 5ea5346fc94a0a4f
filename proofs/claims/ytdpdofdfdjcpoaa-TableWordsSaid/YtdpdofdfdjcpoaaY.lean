/- same, walked. -/
import Derived.Test.YtdpdofdfdjcpoaaX
import Derived.WalkKit
import Derived.WalkSpells
import Derived.ProofKit
import Derived.Outline
import Derived.Handy
import Derived.RowKit3
import Derived.BigQuiet
import Derived.Deep.QuietTactic
import Derived.Deep.RegionHeld3
import Derived.Deep.Draws
import Derived.RegionTactic
import Derived.BigRegion
import Derived.IntWalk
import Derived.LoopTactic
import Derived.OwnWalk
import Derived.Laws.AppendOwn
import Derived.Laws.OwnMore
import Derived.Laws.MakeOwn
import Derived.Laws.Pointers
import Derived.Maps.AppendAt
import Derived.Below
namespace Go.Proofs.Ytdpdofdfdjcpoaa
open Go.RowKit
set_option linter.unusedVariables false
set_option maxRecDepth 100000

theorem word_no (mn P E n : Nat) (j : Int) (o : Nat → Int) (l : Nat → Bool) (h1 : 1 ≤ n) (hn : n ≤ 16) (hm : (n + 3) / 4 = mn) (ho : ∀ j, 0 ≤ o j ∧ o j ≤ 4) (hj : ¬ (0 ≤ j ∧ j < (mn : Int) + n)) (w : World) (hT : Tb w P E n o l) :
    Calls Try.prog 17 #[.pointer (some ⟨P, 0, none⟩), .int .i64 j] w fun r w' => r = .returned (.tuple #[.int .i64 0, .int .i64 10]) ∧ Below w.heap.size w w' := by
  have HT := hide hT
  have HO := hide ho
  have HM := hide hm
  clear hT ho hm
  by_cases h0 : 0 ≤ j
  · have hj2 : ¬ j < ((mn + n : Nat) : Int) := by omega
    have hj3 : ¬ j < (mn : Int) + n := by omega
    clear hj
    go_enter Try.func17, Try.ntmps17
    go_wp2_with fail
    refine (words_cs mn P E n o l h1 hn HM.out HO.out _ HT.out).mono ?_
    rintro r w1 ⟨g, cap, rfl, hg, C, hb⟩
    go_wp2
    go_ret2
    exact ⟨by simp [go_sem], hb⟩
  · clear hj
    go_enter Try.func17, Try.ntmps17
    go_wp2_with fail
    refine (words_cs mn P E n o l h1 hn HM.out HO.out _ HT.out).mono ?_
    rintro r w1 ⟨g, cap, rfl, hg, C, hb⟩
    go_wp2
    go_ret2
    exact ⟨by simp [go_sem], hb⟩
def S1Rel (n : Nat) (w : World) (v : Value) (wr : World) : Prop := ∃ g : Int, -1 ≤ g ∧ g ≤ (n : Int) + 1 ∧ v = .int .i64 g ∧ Below w.heap.size w wr
def S2Rel (m c : Nat) (f : Nat → Int) (w : World) (v : Value) (wr : World) : Prop := ∃ g : Int, -1 ≤ g ∧ g ≤ (m : Int) + 1 ∧ v = .int .i64 g ∧ Cs wr c (wdV f) m ∧ Below w.heap.size w wr
def QS (p R j : Nat) (x : Int) (l : Bool) (w W : World) : Prop :=
  W.cell? ⟨p, 0, none⟩ = some (.int .i64 x) ∧ W.cell? ⟨p, 1, none⟩ = some (.bool l) ∧ W.cell? ⟨R, j * 2, none⟩ = some (.int .i64 x) ∧ W.cell? ⟨R, j * 2 + 1, none⟩ = some (.bool l) ∧ Below w.heap.size w W ∧ p < W.heap.size ∧ R < W.heap.size
theorem QS.next {p R j : Nat} {x : Int} {l : Bool} {w W w' : World} (h : QS p R j x l w W) (k : Below W.heap.size W w') : QS p R j x l w w' := by
  obtain ⟨h0, h1, h2, h3, h4, h5, h6⟩ := h
  exact ⟨cell_next k h5 h0, cell_next k h5 h1, cell_next k h6 h2, cell_next k h6 h3, below_step h4 h4.size k, Nat.lt_of_lt_of_le h5 k.size, Nat.lt_of_lt_of_le h6 k.size⟩
theorem QS.below {p R j : Nat} {x : Int} {l : Bool} {w W : World} (h : QS p R j x l w W) : Below w.heap.size w W := h.2.2.2.2.1
set_option maxHeartbeats 8000000 in
theorem same_any (mn P E R n : Nat) (o : Nat → Int) (l : Nat → Bool) (h1 : 1 ≤ n) (hn : n ≤ 16) (hm : (n + 3) / 4 = mn) (ho : ∀ j, 0 ≤ o j ∧ o j ≤ 4) (w : World) (hT : Tb w P E n o l) (hR : Rw w R n o l) :
    Calls Try.prog 12 #[.pointer (some ⟨P, 0, none⟩), .slice (some ⟨R, 0, none⟩) n n] w fun r w' => r = .returned (.bool true) ∧ Below w.heap.size w w' := by
  have hm4 : mn ≤ 4 := by omega
  have HM := hide hm
  have HT := hide hT
  have HR := hide hR
  replace ho := hide ho
  clear hm hT hR
  go_enter Try.func12, Try.ntmps12
  go_wp2
  go_loopw [5] (fun v5 wr => S1Rel n w v5 wr) (fun v5 _ => ((n : Int) + 1 - intOf v5).toNat)
  case atStart => exact ⟨-1, by omega, by omega, rfl, Below.refl _ _⟩
  case round =>
    obtain ⟨g, hg1, hg2, rfl, hB⟩ := hrel
    have TA := hide (HT.out.next hB)
    by_cases hlt : g ≤ n
    · by_cases hin : 0 ≤ g ∧ g < n
      · obtain ⟨j, rfl⟩ : ∃ j : Nat, g = j := ⟨g.toNat, by omega⟩
        have hj : j < n := by omega
        have f0 : ¬ (j : Int) = (n : Int) := by omega
        have f1 : ((j : Int) == (n : Int)) = false := by simp; omega
        have f2 : (j == n) = false := by simp; omega
        go_wp2_with fail
        refine (get_yes P E n j o l hj _ TA.out).mono ?_
        rintro r w2 ⟨rfl, hb2⟩
        have q2 := hide (below_step hB hB.size hb2)
        have q3 := hide (q2.out.alloc q2.out.size (.cells #[.int .i64 (o j), .bool (l j)] 35))
        obtain ⟨c0, c1, -, -⟩ := (HR.out.next q3.out).2 j hj
        have QS0 := hide (show QS w2.heap.size R j (o j) (l j) w (w2.alloc (.cells #[.int .i64 (o j), .bool (l j)] 35)) from ⟨World.cell?_alloc_new _ _ _ _, World.cell?_alloc_new _ _ _ _, c0, c1, q3.out, by simp, (HR.out.next q3.out).1⟩)
        clear c0 c1
        go_wp2_with fail
        go_region_held3 (fun W => W.cell? ⟨w2.heap.size, 0, none⟩ = some (.int .i64 (o j)) ∧ W.cell? ⟨w2.heap.size, 1, none⟩ = some (.bool (l j)) ∧ W.cell? ⟨R, j * 2, none⟩ = some (.int .i64 (o j)) ∧ W.cell? ⟨R, j * 2 + 1, none⟩ = some (.bool (l j)) ∧ Below w.heap.size w W ∧ w2.heap.size < W.heap.size ∧ R < W.heap.size)
          (first | assumption | exact QS.next (by assumption) hb4 | exact QS0.out.next (below_drew0 (Below.refl _ _)))
          (first | (go_at_call 24; refine (entry_any _ _ _).mono ?_; rintro r w4 ⟨rfl, hb4⟩))
        have q4 := hide (QS.below (show QS w2.heap.size R j (o j) (l j) w w4 by assumption))
        clear hb4
        go_wp2
        go_roundw
        case rel => exact ⟨(j : Int) + 1, by omega, by omega, rfl, q4.out⟩
        case measure => simp [intOf]; omega
      · by_cases hneg : g < 0
        · obtain rfl : g = -1 := by omega
          go_wp2_with fail
          refine (get_no P E n (-1) o l (by omega) _ TA.out).mono ?_
          rintro r w2 ⟨rfl, hb2⟩
          have q2 := hide (below_step hB hB.size hb2)
          have q3 := hide (q2.out.alloc q2.out.size (.cells #[.int .i64 0, .bool false] 35))
          go_wp2
          go_roundw
          case rel => exact ⟨0, by omega, by omega, rfl, q3.out⟩
          case measure => simp [intOf]; omega
        · obtain rfl : g = n := by omega
          go_wp2_with fail
          refine (get_no P E n n o l (by omega) _ TA.out).mono ?_
          rintro r w2 ⟨rfl, hb2⟩
          have q2 := hide (below_step hB hB.size hb2)
          have q3 := hide (q2.out.alloc q2.out.size (.cells #[.int .i64 0, .bool false] 35))
          go_wp2
          go_roundw
          case rel => exact ⟨(n : Int) + 1, by omega, by omega, rfl, q3.out⟩
          case measure => first | (simp [intOf]; done) | (simp [intOf]; omega)
    · have hB1 := hide hB
      go_wp2_with fail
      refine (rwords_any mn R n o l h1 hn HM.out ho.out _ (HR.out.next hB)).mono ?_
      rintro r w2 ⟨c, rfl, C, hb2⟩
      have q2 := hide (below_step hB hB.size hb2)
      clear hB
      go_wp2
      go_loopw [9] (fun v9 wr => S2Rel (mn + n) c (wdF mn n o l) w v9 wr) (fun v9 _ => (((mn + n : Nat) : Int) + 1 - intOf v9).toNat)
      case atStart => exact ⟨-1, by omega, by omega, rfl, C, q2.out⟩
      case round =>
        obtain ⟨a, ha1, ha2, rfl, C, hB⟩ := hrel
        have TA := hide (HT.out.next hB)
        replace C := hide C
        by_cases hlt2 : a ≤ ((mn + n : Nat) : Int)
        · have hlt3 : a ≤ (mn : Int) + n := by omega
          by_cases hin : 0 ≤ a ∧ a < ((mn + n : Nat) : Int)
          · obtain ⟨j, rfl⟩ : ∃ j : Nat, a = j := ⟨a.toNat, by omega⟩
            have hj : j < mn + n := by omega
            have f0 : ¬ (j : Int) = ((mn + n : Nat) : Int) := by omega
            have f1 : ((j : Int) == (mn : Int) + n) = false := by simp; omega
            have f3 : ¬ (j : Int) = (mn : Int) + n := by omega
            have f2 : (j == mn + n) = false := by simp; omega
            have f5 : (j : Int) < (mn : Int) + n := by omega
            go_wp2_with fail
            refine (word_in mn P E n j o l _ h1 hn HM.out ho.out hj rfl _ TA.out).mono ?_
            rintro r w3 ⟨rfl, hb3⟩
            have C3 := hide (C.out.next hb3)
            have q3 := hide (below_step hB hB.size hb3)
            have c0 : w3.cell? ⟨c, j, none⟩ = some (.int .i64 (wdF mn n o l j)) := C3.out.2 j hj
            go_wp2
            go_roundw
            case rel => exact ⟨(j : Int) + 1, by omega, by omega, rfl, C3.out, q3.out⟩
            case measure => simp [intOf]; omega
          · by_cases hneg : a < 0
            · obtain rfl : a = -1 := by omega
              go_wp2_with fail
              refine (word_no mn P E n (-1) o l h1 hn HM.out ho.out (by omega) _ TA.out).mono ?_
              rintro r w3 ⟨rfl, hb3⟩
              have C3 := hide (C.out.next hb3)
              have q3 := hide (below_step hB hB.size hb3)
              go_wp2
              go_roundw
              case rel => exact ⟨0, by omega, by omega, rfl, C3.out, q3.out⟩
              case measure => simp [intOf]; omega
            · obtain rfl : a = (mn : Int) + n := by omega
              go_wp2_with fail
              refine (word_no mn P E n _ o l h1 hn HM.out ho.out (by omega) _ TA.out).mono ?_
              rintro r w3 ⟨rfl, hb3⟩
              have C3 := hide (C.out.next hb3)
              have q3 := hide (below_step hB hB.size hb3)
              go_wp2
              go_roundw
              case rel => exact ⟨(mn : Int) + n + 1, by omega, by omega, rfl, C3.out, q3.out⟩
              case measure => first | (simp [intOf]; omega) | simp [intOf]
        · have hlt3 : ¬ a ≤ (mn : Int) + n := by omega
          go_wp2_with fail
          refine (words_cs mn P E n o l h1 hn HM.out ho.out _ TA.out).mono ?_
          rintro r w3 ⟨g0, cap0, rfl, hg0, C0, hb3⟩
          have q3 := hide (below_step hB hB.size hb3)
          have C3 := hide (C.out.next hb3)
          go_wp2_with fail
          refine (ints_cs (mn + n) (by omega) _ _ true (eq_self _ _) g0 cap0 c (mn + n) _ C0 C3.out).mono ?_
          rintro r w4 ⟨rfl, hb4⟩
          have q4 := hide (below_step q3.out q3.out.size hb4)
          go_wp2
          go_ret
          exact ⟨rfl, q4.out⟩
end Go.Proofs.Ytdpdofdfdjcpoaa
