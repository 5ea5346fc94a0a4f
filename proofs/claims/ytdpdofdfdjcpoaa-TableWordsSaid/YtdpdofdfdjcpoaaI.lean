/- Word, and TableWalks, walked. -/
import Derived.Test.YtdpdofdfdjcpoaaH
import Derived.WalkKit
import Derived.WalkSpells
import Derived.ProofKit
import Derived.Outline
import Derived.Handy
import Derived.RowKit3
import Derived.BigQuiet
import Derived.Deep.QuietTactic
import Derived.Deep.RegionHeld3
import Derived.Deep.Draws
import Derived.RegionTactic
import Derived.BigRegion
import Derived.IntWalk
import Derived.LoopTactic
import Derived.OwnWalk
import Derived.Laws.AppendOwn
import Derived.Laws.OwnMore
import Derived.Laws.MakeOwn
import Derived.Laws.Pointers
import Derived.Maps.AppendAt
import Derived.Below
namespace Go.Proofs.Ytdpdofdfdjcpoaa
open Go.RowKit
set_option linter.unusedVariables false
set_option maxRecDepth 100000

theorem first_q (g q : Nat) (h : g < 16) (hq : g / 4 = q) (w : World) : Calls Try.prog 16 #[.int .i64 g] w fun r w' => r = .returned (.tuple #[.int .i64 (q : Int), .int .i64 0]) ∧ w = w' := by subst hq; exact first_in g h w
theorem word_in (mn P E n j : Nat) (o : Nat → Int) (l : Nat → Bool) (x : Int) (h1 : 1 ≤ n) (hn : n ≤ 16) (hm : (n + 3) / 4 = mn) (ho : ∀ j, 0 ≤ o j ∧ o j ≤ 4) (hj : j < mn + n) (hx : wdF mn n o l j = x) (w : World) (hT : Tb w P E n o l) :
    Calls Try.prog 17 #[.pointer (some ⟨P, 0, none⟩), .int .i64 j] w fun r w' => r = .returned (.tuple #[.int .i64 x, .int .i64 0]) ∧ Below w.heap.size w w' := by
  have HT := hide hT
  have HO := hide ho
  have HM := hide hm
  have HX := hide hx
  have hjn : (j : Int) < (mn : Int) + n := by omega
  have hjn2 : (j : Int) < ((mn + n : Nat) : Int) := by omega
  clear hT ho hm hx
  go_enter Try.func17, Try.ntmps17
  go_wp2_with fail
  refine (words_any mn P E n o l h1 hn HM.out (fun j _ => HO.out j) _ HT.out).mono ?_
  rintro r w1 ⟨v, rfl, hown, hb⟩
  obtain ⟨g, cap, rfl, hg1, hg2, hcells⟩ := words_row (mn := mn) hown (by omega)
  have hcj := hcells j hj
  rw [HX.out] at hcj
  clear hcells hown
  go_wp2
  go_ret2
  exact ⟨by simp [go_sem], hb⟩
theorem word_own (mn P E n k : Nat) (o : Nat → Int) (l : Nat → Bool) (x : Int) (h1 : 1 ≤ n) (hn : n ≤ 16) (hm : (n + 3) / 4 = mn) (ho : ∀ j, 0 ≤ o j ∧ o j ≤ 4) (hk : k < n) (hx : wdF mn n o l (mn + k) = x) (w : World) (hT : Tb w P E n o l) :
    Calls Try.prog 17 #[.pointer (some ⟨P, 0, none⟩), .int .i64 ((mn : Int) + k)] w fun r w' => r = .returned (.tuple #[.int .i64 x, .int .i64 0]) ∧ Below w.heap.size w w' := by
  have := word_in mn P E n (mn + k) o l x h1 hn hm ho (by omega) hx w hT
  rw [Int.natCast_add] at this
  exact this
def WkRel (n P E : Nat) (o : Nat → Int) (l : Nat → Bool) (w : World) (v : Value) (wr : World) : Prop := ∃ k : Nat, k ≤ n ∧ v = .int .i64 k ∧ Tb wr P E n o l ∧ Below w.heap.size w wr
set_option maxHeartbeats 8000000 in
theorem walks_in (n : Nat) (h1 : 1 ≤ n) (hn : n ≤ 16) (av : Option Addr) (L c : Nat) (hL : L ≤ 40) (G X : Nat → Int) (B : Nat → Bool) (w : World) (hl : OpsIn w av L G X B) :
    Calls Try.prog 4 #[.int .i64 n, .slice av L c] w fun r w' => r = .returned (.bool true) ∧ Below w.heap.size w w' := by
  replace hl := hide hl
  obtain ⟨mn, hm⟩ : ∃ mn : Nat, (n + 3) / 4 = mn := ⟨_, rfl⟩
  have hm4 : mn ≤ 4 := by omega
  have HM := hide hm
  have HM2 := hide (show ∀ k, k < n → k / 4 < mn from fun k hk => by omega)
  clear hm
  have hL40 : (L : Int) ≤ 40 := by omega
  go_enter Try.func4, Try.ntmps4
  go_wp2_with fail
  refine (made_any n h1 hn av L c hL G X B _ hl.out).mono ?_
  rintro r w1 ⟨P, E, R, rfl, hT, -, hP, hE, -, -, -, hb1⟩
  have ho := stO_in n G X L
  generalize stO n G X L = o at hT ho
  generalize stL n G X B L = l at hT
  replace ho := hide ho
  replace hT := hide hT
  go_wp2
  go_loopw [8] (fun v8 wr => WkRel n P E o l w v8 wr) (fun v8 _ => n - (intOf v8).toNat)
  case atStart => exact ⟨0, Nat.zero_le _, rfl, hT.out, hb1⟩
  case round =>
    obtain ⟨k, hk, rfl, hTr, hB⟩ := hrel
    replace hTr := hide hTr
    by_cases hlt : k < n
    · obtain ⟨q, hq⟩ : ∃ q : Nat, k / 4 = q := ⟨_, rfl⟩
      have hqm := hide (show q < mn by rw [← hq]; exact HM2.out k hlt)
      have hq4 := hide (show 4 * q < n by omega)
      have HQ := hide hq
      have HQ2 := hide (show ∃ i, i < 4 ∧ 4 * q + i = k from ⟨k - 4 * q, by omega, by omega⟩)
      clear hq
      go_wp2_with fail
      refine (get_yes P E n k o l hlt _ hTr.out).mono ?_
      rintro r w2 ⟨rfl, hb2⟩
      have hT2 := hide ((hTr.out.next hb2).alloc (.cells #[.int .i64 (o k), .bool (l k)] 35))
      have hB2 := hide (below_step hB hB.size hb2)
      go_wp2_with fail
      refine (first_q k q (by omega) HQ.out _).mono ?_
      rintro r w3 ⟨rfl, rfl⟩
      have c0 := hide (show (w2.alloc (.cells #[.int .i64 (o k), .bool (l k)] 35)).cell? ⟨w2.heap.size, 0, none⟩ = some (.int .i64 (o k)) from World.cell?_alloc_new _ _ _ _)
      have c1 := hide (show (w2.alloc (.cells #[.int .i64 (o k), .bool (l k)] 35)).cell? ⟨w2.heap.size, 1, none⟩ = some (.bool (l k)) from World.cell?_alloc_new _ _ _ _)
      have s0 : w2.heap.size < (w2.alloc (.cells #[.int .i64 (o k), .bool (l k)] 35)).heap.size := by simp
      have s0' := hide s0
      clear s0
      have FB2 := hide (hB2.out.alloc hB2.out.size (.cells #[.int .i64 (o k), .bool (l k)] 35))
      go_wp2
      refine wp_loop_rounds 3 ?_
      rw [rounds_succ]
      cases hp : plB n o l q
      · have XP := hide (show wdF mn n o l q = 4 * ((mn : Int) + 4 * q) + 1 from wd_part hqm.out hp)
        clear hp
        go_wp2_with fail
        refine (word_in mn P E n q o l _ h1 hn HM.out ho.out (by have := hqm.out; omega) XP.out _ hT2.out).mono ?_
        rintro r w4 ⟨rfl, hb4⟩
        have hT4 := hide (hT2.out.next hb4)
        have d0 := cell_next hb4 s0'.out c0.out
        have d1 := cell_next hb4 s0'.out c1.out
        have s4 : w2.heap.size < w4.heap.size := Nat.lt_of_lt_of_le s0'.out hb4.size
        have FB4 := hide (below_step FB2.out FB2.out.size hb4)
        go_wp2_with fail
        refine (next_part n k q mn h1 hn hlt HQ.out HM.out _).mono ?_
        rintro r w5 ⟨rfl, hb5⟩
        have s5' : w2.heap.size < w5.heap.size := Nat.lt_of_lt_of_le s4 hb5.size
        have f0 := cell_next ((Below.refl w5.heap.size w5).alloc (Nat.le_refl _) (.cells #[.int .i64 0, .bool false] 35)) s5' (cell_next hb5 s4 d0)
        have f1 := cell_next ((Below.refl w5.heap.size w5).alloc (Nat.le_refl _) (.cells #[.int .i64 0, .bool false] 35)) s5' (cell_next hb5 s4 d1)
        have s5 : w2.heap.size < (w5.alloc (.cells #[.int .i64 0, .bool false] 35)).heap.size := Nat.lt_of_lt_of_le s5' (by simp)
        have hT5 := hide ((hT4.out.next hb5).alloc (.cells #[.int .i64 0, .bool false] 35))
        have FB5' := hide (below_step FB4.out FB4.out.size hb5)
        have FB5 := hide (FB5'.out.alloc FB5'.out.size (.cells #[.int .i64 0, .bool false] 35))
        clear d0 d1
        go_wp2
        rw [rounds_succ]
        cases hl2 : l k
        · have e2 : l k = false := hl2
          have X2 := hide (show wdF mn n o l (mn + k) = (o k) by rw [wd_own, e2]; rfl)
          go_wp2_with fail
          refine (word_own mn P E n k o l (o k) h1 hn HM.out ho.out hlt X2.out _ hT5.out).mono ?_
          rintro r w6 ⟨rfl, hb6⟩
          have hT6 := hide (hT5.out.next hb6)
          have g0 := cell_next hb6 s5 f0
          have g1 := cell_next hb6 s5 f1
          have s6 : w2.heap.size < w6.heap.size := Nat.lt_of_lt_of_le s5 hb6.size
          have FB6 := hide (below_step FB5.out FB5.out.size hb6)
          clear f0 f1
          go_wp2_with fail
          refine (next_own n k q mn (o k) (ho.out k).1 (ho.out k).2 h1 hn hlt HQ.out HM.out _).mono ?_
          rintro r w7 ⟨rfl, hb7⟩
          have e0 := cell_next hb7 s6 g0
          have e1 := cell_next hb7 s6 g1
          have s7 : w2.heap.size < w7.heap.size := Nat.lt_of_lt_of_le s6 hb7.size
          have FT := hide ((hT6.out.next hb7).alloc (.cells #[.int .i64 (o k), .bool (l k)] 35))
          have FB7 := hide (below_step FB6.out FB6.out.size hb7)
          have FB := hide (FB7.out.alloc FB7.out.size (.cells #[.int .i64 (o k), .bool (l k)] 35))
          rw [e2] at FT FB
          clear g0 g1
          go_wp2
          rw [rounds_succ]
          go_wp2
          go_roundw
          case rel => exact ⟨k + 1, by omega, int_eq (by omega), FT.out, FB.out⟩
          case measure => simp [intOf]; omega
        · have e2 : l k = true := hl2
          have X2 := hide (show wdF mn n o l (mn + k) = (o k + 8) by rw [wd_own, e2]; rfl)
          go_wp2_with fail
          refine (word_own mn P E n k o l (o k + 8) h1 hn HM.out ho.out hlt X2.out _ hT5.out).mono ?_
          rintro r w6 ⟨rfl, hb6⟩
          have hT6 := hide (hT5.out.next hb6)
          have g0 := cell_next hb6 s5 f0
          have g1 := cell_next hb6 s5 f1
          have s6 : w2.heap.size < w6.heap.size := Nat.lt_of_lt_of_le s5 hb6.size
          have FB6 := hide (below_step FB5.out FB5.out.size hb6)
          clear f0 f1
          go_wp2_with fail
          refine (next_lock n k q mn (o k) (ho.out k).1 (ho.out k).2 h1 hn hlt HQ.out HM.out _).mono ?_
          rintro r w7 ⟨rfl, hb7⟩
          have e0 := cell_next hb7 s6 g0
          have e1 := cell_next hb7 s6 g1
          have s7 : w2.heap.size < w7.heap.size := Nat.lt_of_lt_of_le s6 hb7.size
          have FT := hide ((hT6.out.next hb7).alloc (.cells #[.int .i64 (o k), .bool (l k)] 35))
          have FB7 := hide (below_step FB6.out FB6.out.size hb7)
          have FB := hide (FB7.out.alloc FB7.out.size (.cells #[.int .i64 (o k), .bool (l k)] 35))
          rw [e2] at FT FB
          clear g0 g1
          go_wp2
          rw [rounds_succ]
          go_wp2
          go_roundw
          case rel => exact ⟨k + 1, by omega, int_eq (by omega), FT.out, FB.out⟩
          case measure => simp [intOf]; omega
      · obtain ⟨i, hi4, hik⟩ := HQ2.out
        obtain ⟨e1, e2⟩ := (plB_iff n o l q).1 hp i hi4 (by omega)
        rw [hik] at e1 e2
        have XP := hide (show wdF mn n o l q = 4 * o k by rw [wd_plain hqm.out hp, e1])
        clear hp e1
        rw [e2] at hT2 c0 c1 s0' FB2
        go_wp2_with fail
        refine (word_in mn P E n q o l _ h1 hn HM.out ho.out (by have := hqm.out; omega) XP.out _ hT2.out).mono ?_
        rintro r w4 ⟨rfl, hb4⟩
        have hT4 := hide (hT2.out.next hb4)
        have d0 := cell_next hb4 s0'.out c0.out
        have d1 := cell_next hb4 s0'.out c1.out
        have s4 : w2.heap.size < w4.heap.size := Nat.lt_of_lt_of_le s0'.out hb4.size
        have FB4 := hide (below_step FB2.out FB2.out.size hb4)
        go_wp2_with fail
        refine (next_plain n k q mn (o k) (ho.out k).1 (ho.out k).2 h1 hn hlt HQ.out HM.out _).mono ?_
        rintro r w5 ⟨rfl, hb5⟩
        have f0 := cell_next hb5 s4 d0
        have f1 := cell_next hb5 s4 d1
        have s5 : w2.heap.size < w5.heap.size := Nat.lt_of_lt_of_le s4 hb5.size
        have FT := hide ((hT4.out.next hb5).alloc (.cells #[.int .i64 (o k), .bool false] 35))
        have FB5' := hide (below_step FB4.out FB4.out.size hb5)
        have FB := hide (FB5'.out.alloc FB5'.out.size (.cells #[.int .i64 (o k), .bool false] 35))
        clear d0 d1
        go_wp2
        rw [rounds_succ]
        go_wp2
        go_roundw
        case rel => exact ⟨k + 1, by omega, int_eq (by omega), FT.out, FB.out⟩
        case measure => simp [intOf]; omega
    · obtain rfl : k = n := by omega
      have FB := hide hB
      go_wp2_with fail
      refine (awake_ok _).mono ?_
      rintro r w4 ⟨rfl, hb4⟩
      go_wp2
      go_ret
      exact ⟨rfl, below_step FB.out FB.out.size hb4⟩
end Go.Proofs.Ytdpdofdfdjcpoaa
