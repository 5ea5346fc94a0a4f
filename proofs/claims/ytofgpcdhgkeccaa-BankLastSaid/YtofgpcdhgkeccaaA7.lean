/- BankLast, walked. -/
import Derived.Test.YtofgpcdhgkeccaaA6
import Derived.WalkKit
import Derived.WalkSpells
import Derived.ProofKit
import Derived.Outline
import Derived.Handy
import Derived.RowKit3
import Derived.BigQuiet
import Derived.Deep.QuietTactic
import Derived.Deep.RegionHeld3
import Derived.Deep.Draws
import Derived.Deep.RegionLaw
import Derived.RegionTactic
import Derived.BigRegion
import Derived.IntWalk
import Derived.LoopTactic
import Derived.OwnWalk
import Derived.Laws.AppendOwn
import Derived.Laws.OwnMore
import Derived.Laws.MakeOwn
import Derived.Laws.Pointers
import Derived.Maps.AppendAt
import Derived.Deep.AppendLies
import Derived.Below
namespace Go.Proofs.Ytofgpcdhgkeccaa
open Go.RowKit
set_option linter.unusedVariables false
set_option maxRecDepth 100000


set_option maxHeartbeats 8000000 in
theorem last_ok (q : Cfg) (av : Option Addr) (Ln c : Nat) (hL : Ln ≤ 60) (A B C D E : Nat → Int) (ob od : Int) (w : World) (hl : OpsIn w av Ln A B C D E) :
    Calls Try.prog 4 #[q.v, .slice av Ln c, .agg #[.int .i64 ob, .int .i64 od]] w fun r w' => r = .returned (.bool true) ∧ Below w.heap.size w w' := by
  have h32 := q.n32
  have HQ := hide q.ok
  have hq1 := hide q.hn
  replace hl := hide hl
  have hm : Ln ≤ maxLen := by unfold maxLen; omega
  have HF := hide (few_v av Ln c hm true (by simpa using hL))
  have bx0 : By w q ob od ((w.alloc (.cells #[.int .i64 q.a, .int .i64 q.b, .int .i64 q.c, .int .i64 q.d, .int .i64 q.e, .int .i64 q.f, .int .i64 q.g] 23)).alloc (.cells #[.int .i64 ob, .int .i64 od] 35)) :=
    ⟨(Box.new w q.a q.b q.c q.d q.e q.f q.g 23).alloc _, by simp [go_sem], by simp [go_sem], by simp, ((Below.refl _ _).alloc (Nat.le_refl _) _).alloc (by simp) _⟩
  have BX0 := hide bx0
  clear bx0 hm
  go_enter Try.func4, Try.ntmps4
  go_wp2_with fail
  refine (may_yes _ _ _ _ _ _ _ HQ.out _).mono ?_
  rintro r w1 ⟨rfl, hb1⟩
  have BX1 := hide (BX0.out.next hb1)
  clear hb1
  go_wp2_with fail
  refine (HF.out _).mono ?_
  rintro r w1' ⟨rfl, rfl⟩
  obtain ⟨⟨xl, x0, x1, x2, x3, x4, x5, x6⟩, y1, y3, ylt, yb⟩ := BX1.out
  go_wp2_with fail
  refine (new_yes q _).mono ?_
  rintro r w2 ⟨M, K, L, rfl, hm2, hS2, hb2⟩
  have BX2 := hide (BX1.out.next hb2)
  have M2 := hide hm2
  have HS2 := hide hS2
  have hs2 := hb2.size
  have ltM := hm2.S_lt
  have LTM := hide ltM
  clear hm2 hS2 hb2 x0 x1 x2 x3 x4 x5 x6 y1 y3 xl yb ltM
  obtain ⟨⟨xl, x0, x1, x2, x3, x4, x5, x6⟩, y1, y3, -, yb⟩ := BX2.out
  go_wp2_with fail
  refine (refnew q _).mono ?_
  rintro r w3 ⟨R, E', rfl, hr3, hR, hE, hb3⟩
  have BX3 := hide (BX2.out.next hb3)
  have hs3 := hb3.size
  have lo : ∀ k, Mem.S q M K L k ∨ Rf.S R E' k → w1.heap.size ≤ k := by
    rintro k (h | h | h)
    · exact HS2.out k h
    · omega
    · omega
  have LO := hide lo
  have D3 : DS w3.heap.size w3 q M K L R E' w3 := ⟨⟨_, M2.out.next hb3⟩, ⟨_, hr3⟩, Fr.refl _ _, fun k hk hs => by (have := LTM.out k hk; rcases hs with h | h <;> omega), fun k hk => Nat.lt_of_lt_of_le (LTM.out k hk) hs3, fun k hk => by rcases hk with h | h; (have := hr3.hR; omega); (have := hr3.hE; omega)⟩
  have D3' := hide D3
  clear hr3 hb3 lo D3 x0 x1 x2 x3 x4 x5 x6 y1 y3 xl yb
  go_wp2_with fail
  go_loopw [10] (fun v10 wr => Loop1 w3.heap.size w3 q M K L R E' Ln v10 wr) (fun v10 _ => Ln - (intOf v10).toNat)
  case atStart => exact ⟨0, Nat.zero_le _, rfl, D3'.out⟩
  case round =>
    obtain ⟨k, hk, rfl, hd⟩ := hrel
    have HD := hide hd
    have hsz := hd.fr.size
    clear hd
    by_cases hlt : k < Ln
    · rcases hl.out with h0 | ⟨b, off, rfl, hbl, hops⟩
      · omega
      obtain ⟨z0, z1, z2, z3, z4⟩ := hops k hlt
      clear hops
      have low : ∀ {o : Nat} {v : Value}, w.cell? ⟨b, o, none⟩ = some v → wr.cell? ⟨b, o, none⟩ = some v := fun h =>
        HD.out.keep LO.out (by omega) (by omega) (cell_next (Below.mono BX3.out.bel (Nat.le_refl _)) hbl h)
      have y0 := low z0
      have y1 := low z1
      have y2 := low z2
      have y3 := low z3
      have y4 := low z4
      clear z0 z1 z2 z3 z4 low
      go_wp2_with fail
      refine (does_any _ _ _ _ _ _ (HD.out.here hsz)).mono ?_
      rintro r w4 ⟨⟨b4, rfl⟩, hd4⟩
      have HD4 := hide (HD.out.then hd4)
      clear hd4 y0 y1 y2 y3 y4
      go_wp2
      go_roundw
      case rel => exact ⟨k + 1, by omega, int_eq (by omega), HD4.out⟩
      case measure => simp [intOf]; omega
    · obtain rfl : k = Ln := by omega
      obtain ⟨φ, hm⟩ := HD.out.mem
      have HM := hide hm
      have BX4 := hide (BX3.out.kept HD.out.fr (fun k hk => by have := LO.out k hk; omega))
      clear hm
      go_wp2_with fail
      refine (copy_any _ HM.out).mono ?_
      rintro r w5 ⟨M2, K2, L2, rfl, hc5, hS5, hb5⟩
      have HC := hide hc5
      have HS5 := hide hS5
      have HM5 := hide (HM.out.next hb5)
      have BX5 := hide (BX4.out.next hb5)
      have lm : ∀ k, Mem.S q M K L k → k < wr.heap.size := fun k hk => Nat.lt_of_lt_of_le (HD.out.lm k hk) hsz
      have LM := hide lm
      obtain ⟨-, y1, y3, -, -⟩ := BX5.out
      clear hc5 hS5 hb5 lm
      go_wp2_with fail
      obtain ⟨n1, hn1⟩ : ∃ n1, n1 = wr.heap.size := ⟨_, rfl⟩
      rw [← hn1] at LM HS5
      replace hn1 := hide hn1
      by_cases hin : 0 ≤ ob ∧ ob < (q.n : Int) * 2
      · obtain ⟨i, rfl, hi⟩ := int_nat (z := ob) (n := q.n * 2) (by omega)
        have HI := hide hi
        refine (set_in i HI.out od _ HM5.out).mono ?_
        rintro r w6 ⟨rfl, hm6, f6⟩
        have SA6 := hide ((SB.mk HM5.out HC.out BX5.out (fun k hk => ⟨by have := LO.out k (.inl hk); have := BX1.out.lt; omega, LM.out k hk⟩) HS5.out (by have := BX4.out.lt; have := hn1.out; omega) : SB w q (i : Int) od n1 M K L (φ) M2 K2 L2 φ w5).one hm6 f6)
        clear hm6 f6 y1 y3
        have hz1 : (i : Int) < (q.n : Int) * 2 := by omega
        have d3 : decide ((i : Int) < 0) = false := by simp
        have d4 : decide ((q.n : Int) * 2 ≤ (i : Int)) = false := by simp; omega
        have d5 : decide (q.n * 2 ≤ i) = false := by simp; omega
        obtain ⟨-, y1, y3, -, -⟩ := SA6.out.b
        go_wp2_with fail
        have SD := hide (SA6.out.next (below_drew0 (Below.refl _ _)))
        have SS := hide (show ∀ W, SB w q (i : Int) od n1 M K L (upd φ i od) M2 K2 L2 φ W → W.cell? ⟨w.heap.size + 1, 0, none⟩ = some (.int .i64 (i : Int)) ∧ W.cell? ⟨w.heap.size, 0, none⟩ = some (.int .i64 q.a) ∧ W.cell? ⟨w.heap.size, 1, none⟩ = some (.int .i64 q.b) ∧ W.cell? ⟨w.heap.size, 2, none⟩ = some (.int .i64 q.c) ∧ W.cell? ⟨w.heap.size, 3, none⟩ = some (.int .i64 q.d) ∧ W.cell? ⟨w.heap.size, 4, none⟩ = some (.int .i64 q.e) ∧ W.cell? ⟨w.heap.size, 5, none⟩ = some (.int .i64 q.f) ∧ W.cell? ⟨w.heap.size, 6, none⟩ = some (.int .i64 q.g) ∧ SB w q (i : Int) od n1 M K L (upd φ i od) M2 K2 L2 φ W from fun W h => ⟨h.b.b1, h.b.box.2.1, h.b.box.2.2.1, h.b.box.2.2.2.1, h.b.box.2.2.2.2.1, h.b.box.2.2.2.2.2.1, h.b.box.2.2.2.2.2.2.1, h.b.box.2.2.2.2.2.2.2, h⟩)
        go_region_held3 (fun W => W.cell? ⟨w.heap.size + 1, 0, none⟩ = some (.int .i64 (i : Int)) ∧ W.cell? ⟨w.heap.size, 0, none⟩ = some (.int .i64 q.a) ∧ W.cell? ⟨w.heap.size, 1, none⟩ = some (.int .i64 q.b) ∧ W.cell? ⟨w.heap.size, 2, none⟩ = some (.int .i64 q.c) ∧ W.cell? ⟨w.heap.size, 3, none⟩ = some (.int .i64 q.d) ∧ W.cell? ⟨w.heap.size, 4, none⟩ = some (.int .i64 q.e) ∧ W.cell? ⟨w.heap.size, 5, none⟩ = some (.int .i64 q.f) ∧ W.cell? ⟨w.heap.size, 6, none⟩ = some (.int .i64 q.g) ∧ SB w q (i : Int) od n1 M K L (upd φ i od) M2 K2 L2 φ W)
          (first | assumption | exact SS.out _ SD.out | exact SS.out _ (SB.next (last9 (by assumption)) hb))
          (first
            | (go_at_call 18; refine (words_in q _).mono ?_; rintro r w' ⟨rfl, hb⟩))
        have S8 := hide (show SB w q (i : Int) od n1 M K L (upd φ i od) M2 K2 L2 φ _ from last9 (by assumption))
        clear y1 y3
        go_wp2_with fail
        go_loopw [13] (fun v13 wr2 => Loop4 w q (i : Int) od n1 M K L (upd φ i od) M2 K2 L2 φ v13 wr2) (fun v13 _ => q.n * 2 - (intOf v13).toNat)
        case atStart => exact ⟨0, Nat.zero_le _, rfl, S8.out⟩
        case round =>
          obtain ⟨k2, hk2, rfl, hsa⟩ := hrel
          have T1 := hide hsa
          obtain ⟨⟨xl, x0, x1, x2, x3, x4, x5, x6⟩, y1, y3, -, -⟩ := T1.out.b
          clear hsa
          go_wp2_with fail
          refine (words_in q _).mono ?_
          rintro r w7 ⟨rfl, hb7⟩
          have T2 := hide (T1.out.next hb7)
          clear hb7 x0 x1 x2 x3 x4 x5 x6 y1 y3 xl
          obtain ⟨⟨xl, x0, x1, x2, x3, x4, x5, x6⟩, y1, y3, yl, -⟩ := T2.out.b
          by_cases hlt2 : k2 < q.n * 2
          · have hlz : (k2 : Int) < (q.n : Int) * 2 := by omega
            have KL := hide hlt2
            go_wp2_with fail
            refine (get_z _ k2 rfl KL.out _ T2.out.m).mono ?_
            rintro r w8 ⟨rfl, hb8⟩
            have T3 := hide (T2.out.next hb8)
            clear hb8
            go_wp2_with fail
            refine (get_z _ k2 rfl KL.out _ T3.out.n).mono ?_
            rintro r w9 ⟨rfl, hb9⟩
            have T4 := hide (T3.out.next hb9)
            clear hb9 x0 x1 x2 x3 x4 x5 x6 xl y1 y3
            obtain ⟨⟨xl, x0, x1, x2, x3, x4, x5, x6⟩, y1, y3, yl, -⟩ := T4.out.b
            have hlt : k2 = k2 / 2 * 2 + k2 % 2 := by omega
            obtain ⟨l, hl2⟩ : ∃ l, k2 / 2 = l := ⟨_, rfl⟩
            have ht : k2 % 2 = 0 ∨ k2 % 2 = 1 := by omega
            rw [hl2] at hlt
            replace hl2 := hide hl2
            rcases ht with ht | ht
            · rw [ht] at hlt
              have HLT := hide hlt
              have hll := hide (show l < q.n by have := KL.out; omega)
              clear ht hlt
              go_wp2_with fail
              refine (wline_z q k2 l 0 KL.out HLT.out (by omega) _).mono ?_
              rintro r w10 ⟨rfl, hb10⟩
              have T5 := hide (T4.out.next hb10)
              clear hb10 x0 x1 x2 x3 x4 x5 x6 xl y1 y3
              go_wp2_with fail
              refine (read_z _ l rfl hll.out _ T5.out.m).mono ?_
              rintro r w11 ⟨rfl, hm11, f11⟩
              have T6 := hide (T5.out.one hm11 (frK f11))
              clear hm11 f11
              obtain ⟨-, y1, y3, yl, -⟩ := T6.out.b
              have e1 : (upd φ i od) (l * 2) = (upd φ i od) k2 := congrArg (upd φ i od) (by have := HLT.out; omega)
              by_cases hki : k2 = i
              · have e2 : (upd φ i od) k2 = od := by rw [hki]; exact upd_same _ _ _
                have e3 := e1.trans e2
                rw [e3]
                have b0 : (k2 == i) = true := by simpa using hki
                have b1 : ((k2 : Int) == (i : Int)) = true := by simp; omega
                have b2 : (k2 != i) = false := by simp [hki]
                have b3 : ((k2 : Int) != (i : Int)) = false := by simp; omega
                replace hki := hide hki
                replace e1 := hide e1
                replace e3 := hide e3
                rw [e2]
                replace e2 := hide e2
                go_wp2
                all_goals
                  go_roundw
                  case rel => exact ⟨k2 + 1, by have := KL.out; omega, int_eq (by omega), T6.out.next ((Below.refl _ _).alloc (Nat.le_refl _) _)⟩
                  case measure => have := KL.out; simp [intOf]; omega
              · have e2 : (upd φ i od) k2 = φ k2 := upd_other _ hki _
                have e3 := e1.trans e2
                rw [e3]
                have b0 : (k2 == i) = false := by simpa using hki
                have b1 : ((k2 : Int) == (i : Int)) = false := by simp; omega
                have b2 : (k2 != i) = true := by simpa using hki
                have b3 : ((k2 : Int) != (i : Int)) = true := by simp; omega
                replace hki := hide hki
                replace e1 := hide e1
                replace e3 := hide e3
                rw [e2]
                replace e2 := hide e2
                go_wp2
                all_goals
                  go_roundw
                  case rel => exact ⟨k2 + 1, by have := KL.out; omega, int_eq (by omega), T6.out.next ((Below.refl _ _).alloc (Nat.le_refl _) _)⟩
                  case measure => have := KL.out; simp [intOf]; omega
            · rw [ht] at hlt
              have HLT := hide hlt
              have hll := hide (show l < q.n by have := KL.out; omega)
              clear ht hlt
              go_wp2_with fail
              refine (wline_z q k2 l 1 KL.out HLT.out (by omega) _).mono ?_
              rintro r w10 ⟨rfl, hb10⟩
              have T5 := hide (T4.out.next hb10)
              clear hb10 x0 x1 x2 x3 x4 x5 x6 xl y1 y3
              go_wp2_with fail
              refine (read_z _ l rfl hll.out _ T5.out.m).mono ?_
              rintro r w11 ⟨rfl, hm11, f11⟩
              have T6 := hide (T5.out.one hm11 (frK f11))
              clear hm11 f11
              obtain ⟨-, y1, y3, yl, -⟩ := T6.out.b
              have e1 : (upd φ i od) (l * 2 + 1) = (upd φ i od) k2 := congrArg (upd φ i od) (by have := HLT.out; omega)
              by_cases hki : k2 = i
              · have e2 : (upd φ i od) k2 = od := by rw [hki]; exact upd_same _ _ _
                have e3 := e1.trans e2
                rw [e3]
                have b0 : (k2 == i) = true := by simpa using hki
                have b1 : ((k2 : Int) == (i : Int)) = true := by simp; omega
                have b2 : (k2 != i) = false := by simp [hki]
                have b3 : ((k2 : Int) != (i : Int)) = false := by simp; omega
                replace hki := hide hki
                replace e1 := hide e1
                replace e3 := hide e3
                rw [e2]
                replace e2 := hide e2
                go_wp2
                all_goals
                  go_roundw
                  case rel => exact ⟨k2 + 1, by have := KL.out; omega, int_eq (by omega), T6.out.next ((Below.refl _ _).alloc (Nat.le_refl _) _)⟩
                  case measure => have := KL.out; simp [intOf]; omega
              · have e2 : (upd φ i od) k2 = φ k2 := upd_other _ hki _
                have e3 := e1.trans e2
                rw [e3]
                have b0 : (k2 == i) = false := by simpa using hki
                have b1 : ((k2 : Int) == (i : Int)) = false := by simp; omega
                have b2 : (k2 != i) = true := by simpa using hki
                have b3 : ((k2 : Int) != (i : Int)) = true := by simp; omega
                replace hki := hide hki
                replace e1 := hide e1
                replace e3 := hide e3
                rw [e2]
                replace e2 := hide e2
                go_wp2
                all_goals
                  go_roundw
                  case rel => exact ⟨k2 + 1, by have := KL.out; omega, int_eq (by omega), T6.out.next ((Below.refl _ _).alloc (Nat.le_refl _) _)⟩
                  case measure => have := KL.out; simp [intOf]; omega
          · obtain rfl : k2 = q.n * 2 := by omega
            obtain ⟨g, hg⟩ : ∃ g, i / 4 = g := ⟨_, rfl⟩
            have HG := hide hg
            have hg1 := hide (show (i : Int) / 2 / 2 = (g : Int) by omega)
            have hg2 := hide (show (0 : Int) ≤ (i : Int) / 2 ∧ (i : Int) / 2 < q.n by have := HI.out; omega)
            have hg3 := hide (show g * 2 < q.n by have := HI.out; have := q.hn; omega)
            clear hg
            go_wp2_with fail
            refine (granule_in q _ g hg2.out.1 hg2.out.2 hg1.out _).mono ?_
            rintro r w8 ⟨rfl, hb8⟩
            have T3 := hide (T2.out.next hb8)
            clear hb8 x0 x1 x2 x3 x4 x5 x6 xl y1 y3
            go_wp2_with fail
            refine (scrub_z _ g rfl hg3.out _ T3.out.m).mono ?_
            rintro r w9 ⟨rfl, hm9, f9⟩
            have T4 := hide (T3.out.one hm9 f9)
            clear hm9 f9
            go_wp2_with fail
            go_loopw [25] (fun v13 wr2 => Loop4 w q (i : Int) od n1 M K L (scr (upd φ i od) g) M2 K2 L2 φ v13 wr2) (fun v13 _ => q.n * 2 - (intOf v13).toNat)
            case atStart => exact ⟨0, Nat.zero_le _, rfl, T4.out⟩
            case round =>
              obtain ⟨k2, hk2, rfl, hsa⟩ := hrel
              have T1 := hide hsa
              obtain ⟨⟨xl, x0, x1, x2, x3, x4, x5, x6⟩, y1, y3, -, -⟩ := T1.out.b
              clear hsa
              go_wp2_with fail
              refine (words_in q _).mono ?_
              rintro r w7 ⟨rfl, hb7⟩
              have T2 := hide (T1.out.next hb7)
              clear hb7 x0 x1 x2 x3 x4 x5 x6 y1 y3 xl
              obtain ⟨⟨xl, x0, x1, x2, x3, x4, x5, x6⟩, y1, y3, yl, -⟩ := T2.out.b
              by_cases hlt2 : k2 < q.n * 2
              · have hlz : (k2 : Int) < (q.n : Int) * 2 := by omega
                have KL := hide hlt2
                clear x0 x1 x2 x3 x4 x5 x6 xl y1 y3
                go_wp2_with fail
                refine (get_z _ k2 rfl KL.out _ T2.out.m).mono ?_
                rintro r w8 ⟨rfl, hb8⟩
                have T3 := hide (T2.out.next hb8)
                clear hb8
                go_wp2_with fail
                refine (get_z _ k2 rfl KL.out _ T3.out.n).mono ?_
                rintro r w9 ⟨rfl, hb9⟩
                have T4 := hide (T3.out.next hb9)
                clear hb9
                by_cases hki : k2 / 4 = g
                · have e1 : scr (upd φ i od) g k2 = 0 := by rw [scr_at, if_pos hki]
                  rw [e1]
                  have b0 : (k2 / 4 == g) = true := by simpa using hki
                  have b1 : ((k2 : Int) / 4 == (g : Int)) = true := by simp; omega
                  have b2 : (k2 / 4 != g) = false := by simp [hki]
                  have b3 : ((k2 : Int) / 4 != (g : Int)) = false := by simp; omega
                  replace hki := hide hki
                  replace e1 := hide e1
                  go_wp2
                  all_goals
                    go_roundw
                    case rel => exact ⟨k2 + 1, by have := KL.out; omega, int_eq (by omega), T4.out⟩
                    case measure => have := KL.out; simp [intOf]; omega
                · have e1 : scr (upd φ i od) g k2 = φ k2 := by rw [scr_at, if_neg hki, upd_other _ (by intro e; apply hki; rw [e]; exact HG.out)]
                  rw [e1]
                  have b0 : (k2 / 4 == g) = false := by simpa using hki
                  have b1 : ((k2 : Int) / 4 == (g : Int)) = false := by simp; omega
                  have b2 : (k2 / 4 != g) = true := by simpa using hki
                  have b3 : ((k2 : Int) / 4 != (g : Int)) = true := by simp; omega
                  replace hki := hide hki
                  replace e1 := hide e1
                  go_wp2
                  all_goals
                    go_roundw
                    case rel => exact ⟨k2 + 1, by have := KL.out; omega, int_eq (by omega), T4.out⟩
                    case measure => have := KL.out; simp [intOf]; omega
              · obtain rfl : k2 = q.n * 2 := by omega
                clear x0 x1 x2 x3 x4 x5 x6 xl y1 y3
                go_wp2_with fail
                refine (awake_ok _).mono ?_
                rintro r w10 ⟨rfl, hb10⟩
                have S10 := hide (T2.out.next hb10)
                clear hb10
                go_wp2
                go_ret
                exact ⟨rfl, S10.out.b.bel⟩
      · have HO := hide hin
        clear hin
        refine (set_out ob HO.out od _ HM5.out).mono ?_
        rintro r w6 ⟨rfl, hb6⟩
        have SA6 := hide ((SB.mk HM5.out HC.out BX5.out (fun k hk => ⟨by have := LO.out k (.inl hk); have := BX1.out.lt; omega, LM.out k hk⟩) HS5.out (by have := BX4.out.lt; have := hn1.out; omega) : SB w q ob od n1 M K L (φ) M2 K2 L2 φ w5).next hb6)
        clear hb6 y1 y3
        have HV : Hid (eqB φ φ (q.n * 2) = true) := hide ((eqB_iff _ _ _).2 (fun _ _ => rfl))
        by_cases h0 : 0 ≤ ob
        · have h1 : ¬ ob < (q.n : Int) * 2 := by have := HO.out; omega
          have h2 : (q.n : Int) * 2 ≤ ob := by omega
          have d3 : decide (ob < 0) = false := by simp; omega
          obtain ⟨-, y1, y3, -, -⟩ := SA6.out.b
          go_wp2_with fail
          have SD := hide (SA6.out.next (below_drew0 (Below.refl _ _)))
          have SS := hide (show ∀ W, SB w q ob od n1 M K L (φ) M2 K2 L2 φ W → W.cell? ⟨w.heap.size + 1, 0, none⟩ = some (.int .i64 ob) ∧ W.cell? ⟨w.heap.size, 0, none⟩ = some (.int .i64 q.a) ∧ W.cell? ⟨w.heap.size, 1, none⟩ = some (.int .i64 q.b) ∧ W.cell? ⟨w.heap.size, 2, none⟩ = some (.int .i64 q.c) ∧ W.cell? ⟨w.heap.size, 3, none⟩ = some (.int .i64 q.d) ∧ W.cell? ⟨w.heap.size, 4, none⟩ = some (.int .i64 q.e) ∧ W.cell? ⟨w.heap.size, 5, none⟩ = some (.int .i64 q.f) ∧ W.cell? ⟨w.heap.size, 6, none⟩ = some (.int .i64 q.g) ∧ SB w q ob od n1 M K L (φ) M2 K2 L2 φ W from fun W h => ⟨h.b.b1, h.b.box.2.1, h.b.box.2.2.1, h.b.box.2.2.2.1, h.b.box.2.2.2.2.1, h.b.box.2.2.2.2.2.1, h.b.box.2.2.2.2.2.2.1, h.b.box.2.2.2.2.2.2.2, h⟩)
          go_region_held3 (fun W => W.cell? ⟨w.heap.size + 1, 0, none⟩ = some (.int .i64 ob) ∧ W.cell? ⟨w.heap.size, 0, none⟩ = some (.int .i64 q.a) ∧ W.cell? ⟨w.heap.size, 1, none⟩ = some (.int .i64 q.b) ∧ W.cell? ⟨w.heap.size, 2, none⟩ = some (.int .i64 q.c) ∧ W.cell? ⟨w.heap.size, 3, none⟩ = some (.int .i64 q.d) ∧ W.cell? ⟨w.heap.size, 4, none⟩ = some (.int .i64 q.e) ∧ W.cell? ⟨w.heap.size, 5, none⟩ = some (.int .i64 q.f) ∧ W.cell? ⟨w.heap.size, 6, none⟩ = some (.int .i64 q.g) ∧ SB w q ob od n1 M K L (φ) M2 K2 L2 φ W)
            (first | assumption | exact SS.out _ SD.out | exact SS.out _ (SB.next (last9 (by assumption)) hb))
            (first
              | (go_at_call 18; refine (words_in q _).mono ?_; rintro r w' ⟨rfl, hb⟩))
          have S8 := hide (show SB w q ob od n1 M K L (φ) M2 K2 L2 φ _ from last9 (by assumption))
          go_wp2_with fail
          refine (same_sb HV.out S8.out).mono ?_
          rintro r w9 ⟨rfl, hb9⟩
          have S9 := hide (S8.out.next hb9)
          clear hb9
          go_wp2_with fail
          refine (awake_ok _).mono ?_
          rintro r w10 ⟨rfl, hb10⟩
          have S10 := hide (S9.out.next hb10)
          clear hb10
          go_wp2
          go_ret
          exact ⟨rfl, S10.out.b.bel⟩
        · have d3 : decide (ob < 0) = true := by simp; omega
          obtain ⟨-, y1, y3, -, -⟩ := SA6.out.b
          go_wp2_with fail
          go_quiet (fail)
          have S8 := hide (SA6.out.next (below_drewN (Below.refl _ _) nq))
          clear y1 y3
          go_wp2_with fail
          refine (same_sb HV.out S8.out).mono ?_
          rintro r w9 ⟨rfl, hb9⟩
          have S9 := hide (S8.out.next hb9)
          clear hb9
          go_wp2_with fail
          refine (awake_ok _).mono ?_
          rintro r w10 ⟨rfl, hb10⟩
          have S10 := hide (S9.out.next hb10)
          clear hb10
          go_wp2
          go_ret
          exact ⟨rfl, S10.out.b.bel⟩
end Go.Proofs.Ytofgpcdhgkeccaa
