/- BankApart, walked. -/
import Derived.Test.YtofgpcdhgkeccaaA3
import Derived.WalkKit
import Derived.WalkSpells
import Derived.ProofKit
import Derived.Outline
import Derived.Handy
import Derived.RowKit3
import Derived.BigQuiet
import Derived.Deep.QuietTactic
import Derived.Deep.RegionHeld3
import Derived.Deep.Draws
import Derived.Deep.RegionLaw
import Derived.RegionTactic
import Derived.BigRegion
import Derived.IntWalk
import Derived.LoopTactic
import Derived.OwnWalk
import Derived.Laws.AppendOwn
import Derived.Laws.OwnMore
import Derived.Laws.MakeOwn
import Derived.Laws.Pointers
import Derived.Maps.AppendAt
import Derived.Deep.AppendLies
import Derived.Below
namespace Go.Proofs.Ytofgpcdhgkeccaa
open Go.RowKit
set_option linter.unusedVariables false
set_option maxRecDepth 100000


set_option maxHeartbeats 8000000 in
theorem apart_ok (q : Cfg) (av : Option Addr) (Ln c : Nat) (hL : Ln ≤ 60) (A B C D E : Nat → Int) (oa ob oc od oe : Int) (w : World) (hl : OpsIn w av Ln A B C D E) :
    Calls Try.prog 5 #[q.v, .slice av Ln c, .agg #[.int .i64 oa, .int .i64 ob, .int .i64 oc, .int .i64 od, .int .i64 oe]] w fun r w' => r = .returned (.bool true) ∧ Below w.heap.size w w' := by
  have h32 := q.n32
  have HQ := hide q.ok
  have hq1 := hide q.hn
  replace hl := hide hl
  have hm : Ln ≤ maxLen := by unfold maxLen; omega
  have HF := hide (few_v av Ln c hm true (by simpa using hL))
  have bx0 : Bx w q ob od oe ((w.alloc (.cells #[.int .i64 q.a, .int .i64 q.b, .int .i64 q.c, .int .i64 q.d, .int .i64 q.e, .int .i64 q.f, .int .i64 q.g] 23)).alloc (.cells #[.int .i64 oa, .int .i64 ob, .int .i64 oc, .int .i64 od, .int .i64 oe] 38)) :=
    ⟨(Box.new w q.a q.b q.c q.d q.e q.f q.g 23).alloc _, by simp [go_sem], by simp [go_sem], by simp [go_sem], by simp, ((Below.refl _ _).alloc (Nat.le_refl _) _).alloc (by simp) _⟩
  have BX0 := hide bx0
  clear bx0 hm
  go_enter Try.func5, Try.ntmps5
  go_wp2_with fail
  refine (may_yes _ _ _ _ _ _ _ HQ.out _).mono ?_
  rintro r w1 ⟨rfl, hb1⟩
  have BX1 := hide (BX0.out.next hb1)
  clear hb1
  go_wp2_with fail
  refine (HF.out _).mono ?_
  rintro r w1' ⟨rfl, rfl⟩
  obtain ⟨⟨xl, x0, x1, x2, x3, x4, x5, x6⟩, y1, y3, y4, ylt, yb⟩ := BX1.out
  go_wp2_with fail
  refine (new_yes q _).mono ?_
  rintro r w2 ⟨M, K, L, rfl, hm2, hS2, hb2⟩
  have BX2 := hide (BX1.out.next hb2)
  have M2 := hide hm2
  have HS2 := hide hS2
  have hs2 := hb2.size
  have ltM := hm2.S_lt
  have LTM := hide ltM
  clear hm2 hS2 hb2 x0 x1 x2 x3 x4 x5 x6 y1 y3 y4 xl yb ltM
  obtain ⟨⟨xl, x0, x1, x2, x3, x4, x5, x6⟩, y1, y3, y4, -, yb⟩ := BX2.out
  go_wp2_with fail
  refine (refnew q _).mono ?_
  rintro r w3 ⟨R, E', rfl, hr3, hR, hE, hb3⟩
  have BX3 := hide (BX2.out.next hb3)
  have hs3 := hb3.size
  have lo : ∀ k, Mem.S q M K L k ∨ Rf.S R E' k → w1.heap.size ≤ k := by
    rintro k (h | h | h)
    · exact HS2.out k h
    · omega
    · omega
  have LO := hide lo
  have D3 : DS w3.heap.size w3 q M K L R E' w3 := ⟨⟨_, M2.out.next hb3⟩, ⟨_, hr3⟩, Fr.refl _ _, fun k hk hs => by (have := LTM.out k hk; rcases hs with h | h <;> omega), fun k hk => Nat.lt_of_lt_of_le (LTM.out k hk) hs3, fun k hk => by rcases hk with h | h; (have := hr3.hR; omega); (have := hr3.hE; omega)⟩
  have D3' := hide D3
  clear hr3 hb3 lo D3 x0 x1 x2 x3 x4 x5 x6 y1 y3 y4 xl yb
  go_wp2_with fail
  go_loopw [10] (fun v10 wr => Loop1 w3.heap.size w3 q M K L R E' Ln v10 wr) (fun v10 _ => Ln - (intOf v10).toNat)
  case atStart => exact ⟨0, Nat.zero_le _, rfl, D3'.out⟩
  case round =>
    obtain ⟨k, hk, rfl, hd⟩ := hrel
    have HD := hide hd
    have hsz := hd.fr.size
    clear hd
    by_cases hlt : k < Ln
    · rcases hl.out with h0 | ⟨b, off, rfl, hbl, hops⟩
      · omega
      obtain ⟨z0, z1, z2, z3, z4⟩ := hops k hlt
      clear hops
      have low : ∀ {o : Nat} {v : Value}, w.cell? ⟨b, o, none⟩ = some v → wr.cell? ⟨b, o, none⟩ = some v := fun h =>
        HD.out.keep LO.out (by omega) (by omega) (cell_next (Below.mono BX3.out.bel (Nat.le_refl _)) hbl h)
      have y0 := low z0
      have y1 := low z1
      have y2 := low z2
      have y3 := low z3
      have y4 := low z4
      clear z0 z1 z2 z3 z4 low
      go_wp2_with fail
      refine (does_any _ _ _ _ _ _ (HD.out.here hsz)).mono ?_
      rintro r w4 ⟨⟨b4, rfl⟩, hd4⟩
      have HD4 := hide (HD.out.then hd4)
      clear hd4 y0 y1 y2 y3 y4
      go_wp2
      go_roundw
      case rel => exact ⟨k + 1, by omega, int_eq (by omega), HD4.out⟩
      case measure => simp [intOf]; omega
    · obtain rfl : k = Ln := by omega
      obtain ⟨φ, hm⟩ := HD.out.mem
      have HM := hide hm
      have BX4 := hide (BX3.out.kept HD.out.fr (fun k hk => by have := LO.out k hk; omega))
      clear hm
      go_wp2_with fail
      refine (copy_any _ HM.out).mono ?_
      rintro r w5 ⟨M2, K2, L2, rfl, hc5, hS5, hb5⟩
      have HC := hide hc5
      have HS5 := hide hS5
      have HM5 := hide (HM.out.next hb5)
      have BX5 := hide (BX4.out.next hb5)
      have lm : ∀ k, Mem.S q M K L k → k < wr.heap.size := fun k hk => Nat.lt_of_lt_of_le (HD.out.lm k hk) hsz
      have LM := hide lm
      obtain ⟨-, y1, y3, y4, -, -⟩ := BX5.out
      clear hc5 hS5 hb5 lm
      go_wp2_with fail
      obtain ⟨n1, hn1⟩ : ∃ n1, n1 = wr.heap.size := ⟨_, rfl⟩
      rw [← hn1] at LM HS5
      replace hn1 := hide hn1
      by_cases hin : 0 ≤ ob ∧ ob < q.n
      · obtain ⟨i, rfl, hi⟩ := int_nat hin
        have HI := hide hi
        refine (write_in i HI.out od oe _ HM5.out).mono ?_
        rintro r w6 ⟨rfl, hm6, f6⟩
        have SA6 := hide ((SA.mk HM5.out HC.out BX5.out (fun k hk => ⟨by have := LO.out k (.inl hk); have := BX1.out.lt; omega, LM.out k hk⟩) HS5.out (by have := BX4.out.lt; have := hn1.out; omega) : SA w q (i : Int) od oe n1 M K L φ M2 K2 L2 φ w5).one hm6 f6)
        clear hm6 f6 y1 y3 y4
        go_wp2_with fail
        go_loopw [13] (fun v13 wr2 => Loop2 w q (i : Int) od oe n1 M K L (upd (upd φ (i * 2) od) (i * 2 + 1) oe) M2 K2 L2 φ v13 wr2) (fun v13 _ => q.n - (intOf v13).toNat)
        case atStart => exact ⟨0, Nat.zero_le _, rfl, SA6.out⟩
        case round =>
          obtain ⟨k2, hk2, rfl, hsa⟩ := hrel
          have T1 := hide hsa
          obtain ⟨⟨xl, x0, x1, x2, x3, x4, x5, x6⟩, y1, y3, y4, -, -⟩ := T1.out.b
          clear hsa
          go_wp2_with fail
          refine (lines_in q _).mono ?_
          rintro r w7 ⟨rfl, hb7⟩
          have T2 := hide (T1.out.next hb7)
          clear hb7 x0 x1 x2 x3 x4 x5 x6 y1 y3 y4 xl
          obtain ⟨⟨xl, x0, x1, x2, x3, x4, x5, x6⟩, y1, y3, y4, yl, -⟩ := T2.out.b
          by_cases hlt2 : k2 < q.n
          · have KL := hide hlt2
            clear x0 x1 x2 x3 x4 x5 x6 y1 y3 y4 xl yl
            go_wp2_with fail
            refine (read_z _ k2 rfl KL.out _ T2.out.m).mono ?_
            rintro r w8 ⟨rfl, hm8, f8⟩
            have T3 := hide (T2.out.one hm8 (frK f8))
            have T3' := hide (T3.out.next ((Below.refl _ _).alloc (Nat.le_refl _) (.cells #[.int .i64 ((upd (upd φ (i * 2) od) (i * 2 + 1) oe) (k2 * 2)), .int .i64 ((upd (upd φ (i * 2) od) (i * 2 + 1) oe) (k2 * 2 + 1))] 36)))
            clear hm8 f8
            go_wp2_with fail
            refine (read_z _ k2 rfl KL.out _ T3'.out.n).mono ?_
            rintro r w9 ⟨rfl, hm9, f9⟩
            have T4 := hide (T3'.out.two hm9 (frK f9))
            have nK : ¬ w8.heap.size = K2 := by have := T3.out.n.hK; omega
            have k0 := (f9.cell (p := w8.heap.size) (o := 0) (by simp) nK).trans (by simp [go_sem] : _ = some (.int .i64 ((upd (upd φ (i * 2) od) (i * 2 + 1) oe) (k2 * 2))))
            have k1 := (f9.cell (p := w8.heap.size) (o := 1) (by simp) nK).trans (by simp [go_sem] : _ = some (.int .i64 ((upd (upd φ (i * 2) od) (i * 2 + 1) oe) (k2 * 2 + 1))))
            have ks : w8.heap.size < w9.heap.size := by have := f9.size; simp at this; omega
            have kne : ¬ w8.heap.size = w9.heap.size := by omega
            clear hm9 f9
            obtain ⟨-, y1, y3, y4, yl, -⟩ := T4.out.b
            by_cases hki : k2 = i
            · subst hki
              have e1 : upd (upd φ (k2 * 2) od) (k2 * 2 + 1) oe (k2 * 2) = od := by rw [upd_other _ (by omega), upd_same]
              have e2 : upd (upd φ (k2 * 2) od) (k2 * 2 + 1) oe (k2 * 2 + 1) = oe := upd_same _ _ _
              rw [e1] at k0
              rw [e2] at k1
              rw [e1, e2]
              have qq := fun W => arr_neq od oe od oe W
              simp only [beq_self_eq_true, Bool.and_self, Bool.not_true] at qq
              replace e1 := hide e1
              replace e2 := hide e2
              go_wp2
              go_roundw
              case rel => exact ⟨k2 + 1, by omega, int_eq (by omega), T4.out.next ((Below.refl _ _).alloc (Nat.le_refl _) _)⟩
              case measure => simp [intOf]; omega
            · have e1 : upd (upd φ (i * 2) od) (i * 2 + 1) oe (k2 * 2) = φ (k2 * 2) := by rw [upd_other _ (by omega), upd_other _ (by omega)]
              have e2 : upd (upd φ (i * 2) od) (i * 2 + 1) oe (k2 * 2 + 1) = φ (k2 * 2 + 1) := by rw [upd_other _ (by omega), upd_other _ (by omega)]
              rw [e1] at k0
              rw [e2] at k1
              rw [e1, e2]
              have qq := fun W => arr_neq (φ (k2 * 2)) (φ (k2 * 2 + 1)) (φ (k2 * 2)) (φ (k2 * 2 + 1)) W
              simp only [beq_self_eq_true, Bool.and_self, Bool.not_true] at qq
              have b1 : (k2 == i) = false := by simpa using hki
              have b2 : ((k2 : Int) == (i : Int)) = false := by simp; omega
              replace hki := hide hki
              replace e1 := hide e1
              replace e2 := hide e2
              go_wp2
              all_goals
                go_roundw
                case rel => exact ⟨k2 + 1, by omega, int_eq (by omega), T4.out.next ((Below.refl _ _).alloc (Nat.le_refl _) _)⟩
                case measure => simp [intOf]; omega
          · obtain rfl : k2 = q.n := by omega
            clear x0 x1 x2 x3 x4 x5 x6 y1 y3 y4 xl yl
            have SS := hide (show ∀ W, SA w q (i : Int) od oe n1 M K L (upd (upd φ (i * 2) od) (i * 2 + 1) oe) M2 K2 L2 φ W → W.cell? ⟨w.heap.size + 1, 1, none⟩ = some (.int .i64 (i : Int)) ∧ W.cell? ⟨w.heap.size, 0, none⟩ = some (.int .i64 q.a) ∧ W.cell? ⟨w.heap.size, 1, none⟩ = some (.int .i64 q.b) ∧ W.cell? ⟨w.heap.size, 2, none⟩ = some (.int .i64 q.c) ∧ W.cell? ⟨w.heap.size, 3, none⟩ = some (.int .i64 q.d) ∧ W.cell? ⟨w.heap.size, 4, none⟩ = some (.int .i64 q.e) ∧ W.cell? ⟨w.heap.size, 5, none⟩ = some (.int .i64 q.f) ∧ W.cell? ⟨w.heap.size, 6, none⟩ = some (.int .i64 q.g) ∧ SA w q (i : Int) od oe n1 M K L (upd (upd φ (i * 2) od) (i * 2 + 1) oe) M2 K2 L2 φ W from fun W h => ⟨h.b.b1, h.b.box.2.1, h.b.box.2.2.1, h.b.box.2.2.2.1, h.b.box.2.2.2.2.1, h.b.box.2.2.2.2.2.1, h.b.box.2.2.2.2.2.2.1, h.b.box.2.2.2.2.2.2.2, h⟩)
            have HV : Hid (eqB φ φ (q.n * 2) = true) := hide ((eqB_iff _ _ _).2 (fun _ _ => rfl))
            have d1 : decide ((i : Int) < q.n) = true := by simpa using hi
            have d2 : decide (i < q.n) = true := by simpa using hi
            have d3 : decide (0 ≤ (i : Int)) = true := by simp
            have TD := hide (T2.out.next (below_drew0 (Below.refl _ _)))
            obtain ⟨⟨xl, x0, x1, x2, x3, x4, x5, x6⟩, y1, y3, y4, yl, -⟩ := T2.out.b
            go_wp2_with fail
            refine wp_region_held_drew (S := (fun W => W.cell? ⟨w.heap.size + 1, 1, none⟩ = some (.int .i64 (i : Int)) ∧ W.cell? ⟨w.heap.size, 0, none⟩ = some (.int .i64 q.a) ∧ W.cell? ⟨w.heap.size, 1, none⟩ = some (.int .i64 q.b) ∧ W.cell? ⟨w.heap.size, 2, none⟩ = some (.int .i64 q.c) ∧ W.cell? ⟨w.heap.size, 3, none⟩ = some (.int .i64 q.d) ∧ W.cell? ⟨w.heap.size, 4, none⟩ = some (.int .i64 q.e) ∧ W.cell? ⟨w.heap.size, 5, none⟩ = some (.int .i64 q.f) ∧ W.cell? ⟨w.heap.size, 6, none⟩ = some (.int .i64 q.g) ∧ SA w q (i : Int) od oe n1 M K L (upd (upd φ (i * 2) od) (i * 2 + 1) oe) M2 K2 L2 φ W)) (by kernel_rfl) ?_ (fun hHeld => ?_)
            · exact SS.out _ TD.out
            refine wpAnyH_take (i := 0) (v := ?_) rfl (by kernel_rfl) (by kernel_rfl) (by kernel_rfl) (fun _ _ _ h => h) (Or.inl ⟨by rfl, ?_⟩) hHeld ?_
            rotate_left
            · intro w' hSw
              try dsimp only at hSw
              go_simp
              all_goals with_reducible rfl
            try simp only [List.getElem_toArray, List.getElem_cons_succ, List.getElem_cons_zero, Act.put, List.setIfInBounds_toArray, List.set_cons_zero, List.set_cons_succ]
            refine wpAnyH_take (i := 1) (v := ?_) rfl (by kernel_rfl) (by kernel_rfl) (by kernel_rfl) (fun _ _ _ h => h) (Or.inl ⟨by rfl, ?_⟩) hHeld ?_
            rotate_left
            · intro w' hSw
              try dsimp only at hSw
              go_simp
              all_goals with_reducible rfl
            try simp only [List.getElem_toArray, List.getElem_cons_succ, List.getElem_cons_zero, Act.put, List.setIfInBounds_toArray, List.set_cons_zero, List.set_cons_succ]
            refine wpAnyH_take (i := 2) (v := ?_) rfl (by kernel_rfl) (by kernel_rfl) (by kernel_rfl) (fun _ _ _ h => h) (Or.inl ⟨by rfl, ?_⟩) hHeld ?_
            rotate_left
            · intro w' hSw
              try dsimp only at hSw
              go_simp
              all_goals with_reducible rfl
            try simp only [List.getElem_toArray, List.getElem_cons_succ, List.getElem_cons_zero, Act.put, List.setIfInBounds_toArray, List.set_cons_zero, List.set_cons_succ]
            refine wpAnyH_take (i := 3) (v := ?_) rfl (by kernel_rfl) (by kernel_rfl) (by kernel_rfl) (fun _ _ _ h => h) (Or.inl ⟨by rfl, ?_⟩) hHeld ?_
            rotate_left
            · intro w' hSw
              try dsimp only at hSw
              go_simp
              all_goals with_reducible rfl
            try simp only [List.getElem_toArray, List.getElem_cons_succ, List.getElem_cons_zero, Act.put, List.setIfInBounds_toArray, List.set_cons_zero, List.set_cons_succ]
            refine wpAnyH_take (i := 4) (v := ?_) rfl (by kernel_rfl) (by kernel_rfl) (by kernel_rfl) (fun _ _ _ h => h) (Or.inl ⟨by rfl, ?_⟩) hHeld ?_
            rotate_left
            · intro w' hSw
              try dsimp only at hSw
              go_simp
              all_goals with_reducible rfl
            try simp only [List.getElem_toArray, List.getElem_cons_succ, List.getElem_cons_zero, Act.put, List.setIfInBounds_toArray, List.set_cons_zero, List.set_cons_succ]
            refine wpAnyH_take (i := 5) (v := ?_) rfl (by kernel_rfl) (by kernel_rfl) (by kernel_rfl) (fun _ _ _ h => h) (Or.inl ⟨by rfl, ?_⟩) hHeld ?_
            rotate_left
            · intro w' hSw
              try dsimp only at hSw
              go_simp
              all_goals with_reducible rfl
            try simp only [List.getElem_toArray, List.getElem_cons_succ, List.getElem_cons_zero, Act.put, List.setIfInBounds_toArray, List.set_cons_zero, List.set_cons_succ]
            refine wpAnyH_take (i := 6) (v := ?_) rfl (by kernel_rfl) (by kernel_rfl) (by kernel_rfl) (fun _ _ _ h => h) (Or.inl ⟨by rfl, ?_⟩) hHeld ?_
            rotate_left
            · intro w' hSw
              try dsimp only at hSw
              go_simp
              all_goals with_reducible rfl
            try simp only [List.getElem_toArray, List.getElem_cons_succ, List.getElem_cons_zero, Act.put, List.setIfInBounds_toArray, List.set_cons_zero, List.set_cons_succ]
            refine wpAnyH_take (i := 7) (v := ?_) rfl (by kernel_rfl) (by kernel_rfl) (by kernel_rfl) (fun _ _ _ h => h) (Or.inl ⟨by rfl, ?_⟩) hHeld ?_
            rotate_left
            · intro w' hSw
              try dsimp only at hSw
              go_simp
              all_goals with_reducible rfl
            try simp only [List.getElem_toArray, List.getElem_cons_succ, List.getElem_cons_zero, Act.put, List.setIfInBounds_toArray, List.set_cons_zero, List.set_cons_succ]
            refine wpAnyH_take (i := 8) (v := ?_) rfl (by kernel_rfl) (by kernel_rfl) (by kernel_rfl) (fun _ _ _ h => h) (Or.inl ⟨by rfl, ?_⟩) hHeld ?_
            rotate_left
            · intro w' hSw
              try dsimp only at hSw
              go_simp
              all_goals with_reducible rfl
            try simp only [List.getElem_toArray, List.getElem_cons_succ, List.getElem_cons_zero, Act.put, List.setIfInBounds_toArray, List.set_cons_zero, List.set_cons_succ]
            refine wpAnyH_ready (rs := [9]) (by kernel_rfl) (by simp) ?_
            refine AllReadyH.cons rfl (fun K hK => ?_) AllReadyH.nil
            go_simp
            refine (lines_in q _).mono ?_
            rintro r w1 ⟨rfl, hb⟩
            go_wp2_with fail
            refine hK.out _ _ ?_ (fun hHeld => ?_)
            · (try dsimp only)
              exact SS.out _ ((last9 hHeld).next hb)
            clear hK K
            refine wpAnyH_take (i := 10) (v := ?_) rfl (by kernel_rfl) (by kernel_rfl) (by kernel_rfl) (fun _ _ _ h => h) (Or.inl ⟨by rfl, ?_⟩) hHeld ?_
            rotate_left
            · intro w' hSw
              try dsimp only at hSw
              go_simp
              all_goals with_reducible rfl
            try simp only [List.getElem_toArray, List.getElem_cons_succ, List.getElem_cons_zero, Act.put, List.setIfInBounds_toArray, List.set_cons_zero, List.set_cons_succ]
            refine wpAnyH_take (i := 11) (v := ?_) rfl (by kernel_rfl) (by kernel_rfl) (by kernel_rfl) (fun _ _ _ h => h) (Or.inl ⟨by rfl, ?_⟩) hHeld ?_
            rotate_left
            · intro w' hSw
              try dsimp only at hSw
              go_simp
              all_goals with_reducible rfl
            try simp only [List.getElem_toArray, List.getElem_cons_succ, List.getElem_cons_zero, Act.put, List.setIfInBounds_toArray, List.set_cons_zero, List.set_cons_succ]
            refine wpAnyH_take (i := 12) (v := ?_) rfl (by kernel_rfl) (by kernel_rfl) (by kernel_rfl) (fun _ _ _ h => h) (Or.inl ⟨by rfl, ?_⟩) hHeld ?_
            rotate_left
            · intro w' hSw
              try dsimp only at hSw
              go_simp
              all_goals with_reducible rfl
            try simp only [List.getElem_toArray, List.getElem_cons_succ, List.getElem_cons_zero, Act.put, List.setIfInBounds_toArray, List.set_cons_zero, List.set_cons_succ]
            refine wpAnyH_take (i := 13) (v := ?_) rfl (by kernel_rfl) (by kernel_rfl) (by kernel_rfl) (fun _ _ _ h => h) (Or.inl ⟨by rfl, ?_⟩) hHeld ?_
            rotate_left
            · intro w' hSw
              try dsimp only at hSw
              go_simp
              all_goals with_reducible rfl
            try simp only [List.getElem_toArray, List.getElem_cons_succ, List.getElem_cons_zero, Act.put, List.setIfInBounds_toArray, List.set_cons_zero, List.set_cons_succ]
            refine wpAnyH_take (i := 14) (v := ?_) rfl (by kernel_rfl) (by kernel_rfl) (by kernel_rfl) (fun _ _ _ h => h) (Or.inl ⟨by rfl, ?_⟩) hHeld ?_
            rotate_left
            · intro w' hSw
              try dsimp only at hSw
              go_simp
              all_goals with_reducible rfl
            try simp only [List.getElem_toArray, List.getElem_cons_succ, List.getElem_cons_zero, Act.put, List.setIfInBounds_toArray, List.set_cons_zero, List.set_cons_succ]
            refine wpAnyH_take (i := 15) (v := ?_) rfl (by kernel_rfl) (by kernel_rfl) (by kernel_rfl) (fun _ _ _ h => h) (Or.inl ⟨by rfl, ?_⟩) hHeld ?_
            rotate_left
            · intro w' hSw
              try dsimp only at hSw
              go_simp
              all_goals with_reducible rfl
            try simp only [List.getElem_toArray, List.getElem_cons_succ, List.getElem_cons_zero, Act.put, List.setIfInBounds_toArray, List.set_cons_zero, List.set_cons_succ]
            refine wpAnyH_take (i := 16) (v := ?_) rfl (by kernel_rfl) (by kernel_rfl) (by kernel_rfl) (fun _ _ _ h => h) (Or.inl ⟨by rfl, ?_⟩) hHeld ?_
            rotate_left
            · intro w' hSw
              try dsimp only at hSw
              go_simp
              all_goals with_reducible rfl
            try simp only [List.getElem_toArray, List.getElem_cons_succ, List.getElem_cons_zero, Act.put, List.setIfInBounds_toArray, List.set_cons_zero, List.set_cons_succ]
            refine wpAnyH_take (i := 17) (v := undef) rfl (by kernel_rfl) (by kernel_rfl) (by kernel_rfl) (fun _ _ _ h => h) (Or.inr ⟨by rfl, rfl⟩) hHeld ?_
            try simp only [List.getElem_toArray, List.getElem_cons_succ, List.getElem_cons_zero, Act.put, List.setIfInBounds_toArray, List.set_cons_zero, List.set_cons_succ]
            refine wpAnyH_take (i := 18) (v := undef) rfl (by kernel_rfl) (by kernel_rfl) (by kernel_rfl) (fun _ _ _ h => h) (Or.inr ⟨by rfl, rfl⟩) hHeld ?_
            try simp only [List.getElem_toArray, List.getElem_cons_succ, List.getElem_cons_zero, Act.put, List.setIfInBounds_toArray, List.set_cons_zero, List.set_cons_succ]
            refine wpAnyH_take (i := 19) (v := undef) rfl (by kernel_rfl) (by kernel_rfl) (by kernel_rfl) (fun _ _ _ h => h) (Or.inr ⟨by rfl, rfl⟩) hHeld ?_
            try simp only [List.getElem_toArray, List.getElem_cons_succ, List.getElem_cons_zero, Act.put, List.setIfInBounds_toArray, List.set_cons_zero, List.set_cons_succ]
            refine wpAnyH_take (i := 20) (v := ?_) rfl (by kernel_rfl) (by kernel_rfl) (by kernel_rfl) (fun _ _ _ h => h) (Or.inl ⟨by rfl, ?_⟩) hHeld ?_
            rotate_left
            · intro w' hSw
              try dsimp only at hSw
              go_simp
              all_goals with_reducible rfl
            try simp only [List.getElem_toArray, List.getElem_cons_succ, List.getElem_cons_zero, Act.put, List.setIfInBounds_toArray, List.set_cons_zero, List.set_cons_succ]
            refine wpAnyH_take (i := 21) (v := ?_) rfl (by kernel_rfl) (by kernel_rfl) (by kernel_rfl) (fun _ _ _ h => h) (Or.inl ⟨by rfl, ?_⟩) hHeld ?_
            rotate_left
            · intro w' hSw
              try dsimp only at hSw
              go_simp
              all_goals with_reducible rfl
            try simp only [List.getElem_toArray, List.getElem_cons_succ, List.getElem_cons_zero, Act.put, List.setIfInBounds_toArray, List.set_cons_zero, List.set_cons_succ]
            refine wpAnyH_take (i := 22) (v := ?_) rfl (by kernel_rfl) (by kernel_rfl) (by kernel_rfl) (fun _ _ _ h => h) (Or.inl ⟨by rfl, ?_⟩) hHeld ?_
            rotate_left
            · intro w' hSw
              try dsimp only at hSw
              go_simp
              all_goals with_reducible rfl
            try simp only [List.getElem_toArray, List.getElem_cons_succ, List.getElem_cons_zero, Act.put, List.setIfInBounds_toArray, List.set_cons_zero, List.set_cons_succ]
            refine wpAnyH_ready (rs := [23]) (by kernel_rfl) (by simp) ?_
            refine AllReadyH.cons rfl (fun K hK => ?_) AllReadyH.nil
            go_simp
            refine (awake_ok _).mono ?_
            rintro r w1 ⟨rfl, hb⟩
            go_wp2_with fail
            refine hK.out _ _ ?_ (fun hHeld => ?_)
            · (try dsimp only)
              exact SS.out _ ((last9 hHeld).next hb)
            clear hK K
            refine wpAnyH_take (i := 24) (v := ?_) rfl (by kernel_rfl) (by kernel_rfl) (by kernel_rfl) (fun _ _ _ h => h) (Or.inl ⟨by rfl, ?_⟩) hHeld ?_
            rotate_left
            · intro w' hSw
              try dsimp only at hSw
              go_simp
              all_goals with_reducible rfl
            try simp only [List.getElem_toArray, List.getElem_cons_succ, List.getElem_cons_zero, Act.put, List.setIfInBounds_toArray, List.set_cons_zero, List.set_cons_succ]
            refine wpAnyH_take (i := 25) (v := ?_) rfl (by kernel_rfl) (by kernel_rfl) (by kernel_rfl) (fun _ _ _ h => h) (Or.inl ⟨by rfl, ?_⟩) hHeld ?_
            rotate_left
            · intro w' hSw
              try dsimp only at hSw
              go_simp
              all_goals with_reducible rfl
            try simp only [List.getElem_toArray, List.getElem_cons_succ, List.getElem_cons_zero, Act.put, List.setIfInBounds_toArray, List.set_cons_zero, List.set_cons_succ]
            refine wpAnyH_done (by kernel_rfl) ?_ _
            all_goals
              go_wp2
              go_ret
              refine ⟨rfl, ?_⟩
              exact (last9 hHeld).b.bel
      · have HO := hide hin
        refine (write_out ob HO.out od oe _ HM5.out).mono ?_
        rintro r w6 ⟨rfl, hb6⟩
        have SA6 := hide ((SA.mk HM5.out HC.out BX5.out (fun k hk => ⟨by have := LO.out k (.inl hk); have := BX1.out.lt; omega, LM.out k hk⟩) HS5.out (by have := BX4.out.lt; have := hn1.out; omega) : SA w q ob od oe n1 M K L φ M2 K2 L2 φ w5).next hb6)
        clear hb6 y1 y3 y4 hin
        go_wp2_with fail
        go_loopw [13] (fun v13 wr2 => Loop2 w q ob od oe n1 M K L φ M2 K2 L2 φ v13 wr2) (fun v13 _ => q.n - (intOf v13).toNat)
        case atStart => exact ⟨0, Nat.zero_le _, rfl, SA6.out⟩
        case round =>
          obtain ⟨k2, hk2, rfl, hsa⟩ := hrel
          have T1 := hide hsa
          obtain ⟨⟨xl, x0, x1, x2, x3, x4, x5, x6⟩, y1, y3, y4, -, -⟩ := T1.out.b
          clear hsa
          go_wp2_with fail
          refine (lines_in q _).mono ?_
          rintro r w7 ⟨rfl, hb7⟩
          have T2 := hide (T1.out.next hb7)
          clear hb7 x0 x1 x2 x3 x4 x5 x6 y1 y3 y4 xl
          obtain ⟨⟨xl, x0, x1, x2, x3, x4, x5, x6⟩, y1, y3, y4, yl, -⟩ := T2.out.b
          by_cases hlt2 : k2 < q.n
          · have KL := hide hlt2
            clear x0 x1 x2 x3 x4 x5 x6 y1 y3 y4 xl yl
            go_wp2_with fail
            refine (read_z _ k2 rfl KL.out _ T2.out.m).mono ?_
            rintro r w8 ⟨rfl, hm8, f8⟩
            have T3 := hide (T2.out.one hm8 (frK f8))
            have T3' := hide (T3.out.next ((Below.refl _ _).alloc (Nat.le_refl _) (.cells #[.int .i64 (φ (k2 * 2)), .int .i64 (φ (k2 * 2 + 1))] 36)))
            clear hm8 f8
            go_wp2_with fail
            refine (read_z _ k2 rfl KL.out _ T3'.out.n).mono ?_
            rintro r w9 ⟨rfl, hm9, f9⟩
            have T4 := hide (T3'.out.two hm9 (frK f9))
            have nK : ¬ w8.heap.size = K2 := by have := T3.out.n.hK; omega
            have k0 := (f9.cell (p := w8.heap.size) (o := 0) (by simp) nK).trans (by simp [go_sem] : _ = some (.int .i64 (φ (k2 * 2))))
            have k1 := (f9.cell (p := w8.heap.size) (o := 1) (by simp) nK).trans (by simp [go_sem] : _ = some (.int .i64 (φ (k2 * 2 + 1))))
            have ks : w8.heap.size < w9.heap.size := by have := f9.size; simp at this; omega
            have kne : ¬ w8.heap.size = w9.heap.size := by omega
            clear hm9 f9
            obtain ⟨-, y1, y3, y4, yl, -⟩ := T4.out.b
            have qq := fun W => arr_neq (φ (k2 * 2)) (φ (k2 * 2 + 1)) (φ (k2 * 2)) (φ (k2 * 2 + 1)) W
            simp only [beq_self_eq_true, Bool.and_self, Bool.not_true] at qq
            have b2 : ((k2 : Int) == ob) = false := by have := HO.out; simp; omega
            go_wp2
            all_goals
              go_roundw
              case rel => exact ⟨k2 + 1, by omega, int_eq (by omega), T4.out.next ((Below.refl _ _).alloc (Nat.le_refl _) _)⟩
              case measure => simp [intOf]; omega
          · obtain rfl : k2 = q.n := by omega
            have HV : Hid (eqB φ φ (q.n * 2) = true) := hide ((eqB_iff _ _ _).2 (fun _ _ => rfl))
            by_cases h0 : 0 ≤ ob
            · have d3 : decide (0 ≤ ob) = true := by simpa using h0
              have d1 : decide (ob < (q.n : Int)) = false := by have := HO.out; simp; omega
              clear x0 x1 x2 x3 x4 x5 x6 y1 y3 y4 xl yl
              have SS := hide (show ∀ W, SA w q ob od oe n1 M K L (φ) M2 K2 L2 φ W → W.cell? ⟨w.heap.size + 1, 1, none⟩ = some (.int .i64 ob) ∧ W.cell? ⟨w.heap.size, 0, none⟩ = some (.int .i64 q.a) ∧ W.cell? ⟨w.heap.size, 1, none⟩ = some (.int .i64 q.b) ∧ W.cell? ⟨w.heap.size, 2, none⟩ = some (.int .i64 q.c) ∧ W.cell? ⟨w.heap.size, 3, none⟩ = some (.int .i64 q.d) ∧ W.cell? ⟨w.heap.size, 4, none⟩ = some (.int .i64 q.e) ∧ W.cell? ⟨w.heap.size, 5, none⟩ = some (.int .i64 q.f) ∧ W.cell? ⟨w.heap.size, 6, none⟩ = some (.int .i64 q.g) ∧ SA w q ob od oe n1 M K L (φ) M2 K2 L2 φ W from fun W h => ⟨h.b.b1, h.b.box.2.1, h.b.box.2.2.1, h.b.box.2.2.2.1, h.b.box.2.2.2.2.1, h.b.box.2.2.2.2.2.1, h.b.box.2.2.2.2.2.2.1, h.b.box.2.2.2.2.2.2.2, h⟩)
              have TD := hide (T2.out.next (below_drew0 (Below.refl _ _)))
              obtain ⟨⟨xl, x0, x1, x2, x3, x4, x5, x6⟩, y1, y3, y4, yl, -⟩ := T2.out.b
              go_wp2_with fail
              refine wp_region_held_drew (S := (fun W => W.cell? ⟨w.heap.size + 1, 1, none⟩ = some (.int .i64 ob) ∧ W.cell? ⟨w.heap.size, 0, none⟩ = some (.int .i64 q.a) ∧ W.cell? ⟨w.heap.size, 1, none⟩ = some (.int .i64 q.b) ∧ W.cell? ⟨w.heap.size, 2, none⟩ = some (.int .i64 q.c) ∧ W.cell? ⟨w.heap.size, 3, none⟩ = some (.int .i64 q.d) ∧ W.cell? ⟨w.heap.size, 4, none⟩ = some (.int .i64 q.e) ∧ W.cell? ⟨w.heap.size, 5, none⟩ = some (.int .i64 q.f) ∧ W.cell? ⟨w.heap.size, 6, none⟩ = some (.int .i64 q.g) ∧ SA w q ob od oe n1 M K L (φ) M2 K2 L2 φ W)) (by kernel_rfl) ?_ (fun hHeld => ?_)
              · exact SS.out _ TD.out
              refine wpAnyH_take (i := 0) (v := ?_) rfl (by kernel_rfl) (by kernel_rfl) (by kernel_rfl) (fun _ _ _ h => h) (Or.inl ⟨by rfl, ?_⟩) hHeld ?_
              rotate_left
              · intro w' hSw
                try dsimp only at hSw
                go_simp
                all_goals with_reducible rfl
              try simp only [List.getElem_toArray, List.getElem_cons_succ, List.getElem_cons_zero, Act.put, List.setIfInBounds_toArray, List.set_cons_zero, List.set_cons_succ]
              refine wpAnyH_take (i := 1) (v := ?_) rfl (by kernel_rfl) (by kernel_rfl) (by kernel_rfl) (fun _ _ _ h => h) (Or.inl ⟨by rfl, ?_⟩) hHeld ?_
              rotate_left
              · intro w' hSw
                try dsimp only at hSw
                go_simp
                all_goals with_reducible rfl
              try simp only [List.getElem_toArray, List.getElem_cons_succ, List.getElem_cons_zero, Act.put, List.setIfInBounds_toArray, List.set_cons_zero, List.set_cons_succ]
              refine wpAnyH_take (i := 2) (v := ?_) rfl (by kernel_rfl) (by kernel_rfl) (by kernel_rfl) (fun _ _ _ h => h) (Or.inl ⟨by rfl, ?_⟩) hHeld ?_
              rotate_left
              · intro w' hSw
                try dsimp only at hSw
                go_simp
                all_goals with_reducible rfl
              try simp only [List.getElem_toArray, List.getElem_cons_succ, List.getElem_cons_zero, Act.put, List.setIfInBounds_toArray, List.set_cons_zero, List.set_cons_succ]
              refine wpAnyH_take (i := 3) (v := ?_) rfl (by kernel_rfl) (by kernel_rfl) (by kernel_rfl) (fun _ _ _ h => h) (Or.inl ⟨by rfl, ?_⟩) hHeld ?_
              rotate_left
              · intro w' hSw
                try dsimp only at hSw
                go_simp
                all_goals with_reducible rfl
              try simp only [List.getElem_toArray, List.getElem_cons_succ, List.getElem_cons_zero, Act.put, List.setIfInBounds_toArray, List.set_cons_zero, List.set_cons_succ]
              refine wpAnyH_take (i := 4) (v := ?_) rfl (by kernel_rfl) (by kernel_rfl) (by kernel_rfl) (fun _ _ _ h => h) (Or.inl ⟨by rfl, ?_⟩) hHeld ?_
              rotate_left
              · intro w' hSw
                try dsimp only at hSw
                go_simp
                all_goals with_reducible rfl
              try simp only [List.getElem_toArray, List.getElem_cons_succ, List.getElem_cons_zero, Act.put, List.setIfInBounds_toArray, List.set_cons_zero, List.set_cons_succ]
              refine wpAnyH_take (i := 5) (v := ?_) rfl (by kernel_rfl) (by kernel_rfl) (by kernel_rfl) (fun _ _ _ h => h) (Or.inl ⟨by rfl, ?_⟩) hHeld ?_
              rotate_left
              · intro w' hSw
                try dsimp only at hSw
                go_simp
                all_goals with_reducible rfl
              try simp only [List.getElem_toArray, List.getElem_cons_succ, List.getElem_cons_zero, Act.put, List.setIfInBounds_toArray, List.set_cons_zero, List.set_cons_succ]
              refine wpAnyH_take (i := 6) (v := ?_) rfl (by kernel_rfl) (by kernel_rfl) (by kernel_rfl) (fun _ _ _ h => h) (Or.inl ⟨by rfl, ?_⟩) hHeld ?_
              rotate_left
              · intro w' hSw
                try dsimp only at hSw
                go_simp
                all_goals with_reducible rfl
              try simp only [List.getElem_toArray, List.getElem_cons_succ, List.getElem_cons_zero, Act.put, List.setIfInBounds_toArray, List.set_cons_zero, List.set_cons_succ]
              refine wpAnyH_take (i := 7) (v := ?_) rfl (by kernel_rfl) (by kernel_rfl) (by kernel_rfl) (fun _ _ _ h => h) (Or.inl ⟨by rfl, ?_⟩) hHeld ?_
              rotate_left
              · intro w' hSw
                try dsimp only at hSw
                go_simp
                all_goals with_reducible rfl
              try simp only [List.getElem_toArray, List.getElem_cons_succ, List.getElem_cons_zero, Act.put, List.setIfInBounds_toArray, List.set_cons_zero, List.set_cons_succ]
              refine wpAnyH_take (i := 8) (v := ?_) rfl (by kernel_rfl) (by kernel_rfl) (by kernel_rfl) (fun _ _ _ h => h) (Or.inl ⟨by rfl, ?_⟩) hHeld ?_
              rotate_left
              · intro w' hSw
                try dsimp only at hSw
                go_simp
                all_goals with_reducible rfl
              try simp only [List.getElem_toArray, List.getElem_cons_succ, List.getElem_cons_zero, Act.put, List.setIfInBounds_toArray, List.set_cons_zero, List.set_cons_succ]
              refine wpAnyH_ready (rs := [9]) (by kernel_rfl) (by simp) ?_
              refine AllReadyH.cons rfl (fun K hK => ?_) AllReadyH.nil
              go_simp
              refine (lines_in q _).mono ?_
              rintro r w1 ⟨rfl, hb⟩
              go_wp2_with fail
              refine hK.out _ _ ?_ (fun hHeld => ?_)
              · (try dsimp only)
                exact SS.out _ ((last9 hHeld).next hb)
              clear hK K
              refine wpAnyH_take (i := 10) (v := ?_) rfl (by kernel_rfl) (by kernel_rfl) (by kernel_rfl) (fun _ _ _ h => h) (Or.inl ⟨by rfl, ?_⟩) hHeld ?_
              rotate_left
              · intro w' hSw
                try dsimp only at hSw
                go_simp
                all_goals with_reducible rfl
              try simp only [List.getElem_toArray, List.getElem_cons_succ, List.getElem_cons_zero, Act.put, List.setIfInBounds_toArray, List.set_cons_zero, List.set_cons_succ]
              refine wpAnyH_take (i := 11) (v := ?_) rfl (by kernel_rfl) (by kernel_rfl) (by kernel_rfl) (fun _ _ _ h => h) (Or.inl ⟨by rfl, ?_⟩) hHeld ?_
              rotate_left
              · intro w' hSw
                try dsimp only at hSw
                go_simp
                all_goals with_reducible rfl
              try simp only [List.getElem_toArray, List.getElem_cons_succ, List.getElem_cons_zero, Act.put, List.setIfInBounds_toArray, List.set_cons_zero, List.set_cons_succ]
              refine wpAnyH_take (i := 12) (v := ?_) rfl (by kernel_rfl) (by kernel_rfl) (by kernel_rfl) (fun _ _ _ h => h) (Or.inl ⟨by rfl, ?_⟩) hHeld ?_
              rotate_left
              · intro w' hSw
                try dsimp only at hSw
                go_simp
                all_goals with_reducible rfl
              try simp only [List.getElem_toArray, List.getElem_cons_succ, List.getElem_cons_zero, Act.put, List.setIfInBounds_toArray, List.set_cons_zero, List.set_cons_succ]
              refine wpAnyH_take (i := 13) (v := ?_) rfl (by kernel_rfl) (by kernel_rfl) (by kernel_rfl) (fun _ _ _ h => h) (Or.inl ⟨by rfl, ?_⟩) hHeld ?_
              rotate_left
              · intro w' hSw
                try dsimp only at hSw
                go_simp
                all_goals with_reducible rfl
              try simp only [List.getElem_toArray, List.getElem_cons_succ, List.getElem_cons_zero, Act.put, List.setIfInBounds_toArray, List.set_cons_zero, List.set_cons_succ]
              refine wpAnyH_take (i := 14) (v := ?_) rfl (by kernel_rfl) (by kernel_rfl) (by kernel_rfl) (fun _ _ _ h => h) (Or.inl ⟨by rfl, ?_⟩) hHeld ?_
              rotate_left
              · intro w' hSw
                try dsimp only at hSw
                go_simp
                all_goals with_reducible rfl
              try simp only [List.getElem_toArray, List.getElem_cons_succ, List.getElem_cons_zero, Act.put, List.setIfInBounds_toArray, List.set_cons_zero, List.set_cons_succ]
              refine wpAnyH_take (i := 15) (v := ?_) rfl (by kernel_rfl) (by kernel_rfl) (by kernel_rfl) (fun _ _ _ h => h) (Or.inl ⟨by rfl, ?_⟩) hHeld ?_
              rotate_left
              · intro w' hSw
                try dsimp only at hSw
                go_simp
                all_goals with_reducible rfl
              try simp only [List.getElem_toArray, List.getElem_cons_succ, List.getElem_cons_zero, Act.put, List.setIfInBounds_toArray, List.set_cons_zero, List.set_cons_succ]
              refine wpAnyH_take (i := 16) (v := ?_) rfl (by kernel_rfl) (by kernel_rfl) (by kernel_rfl) (fun _ _ _ h => h) (Or.inl ⟨by rfl, ?_⟩) hHeld ?_
              rotate_left
              · intro w' hSw
                try dsimp only at hSw
                go_simp
                all_goals with_reducible rfl
              try simp only [List.getElem_toArray, List.getElem_cons_succ, List.getElem_cons_zero, Act.put, List.setIfInBounds_toArray, List.set_cons_zero, List.set_cons_succ]
              refine wpAnyH_take (i := 17) (v := ?_) rfl (by kernel_rfl) (by kernel_rfl) (by kernel_rfl) (fun _ _ _ h => h) (Or.inl ⟨by rfl, ?_⟩) hHeld ?_
              rotate_left
              · intro w' hSw
                try dsimp only at hSw
                go_simp
                all_goals with_reducible rfl
              try simp only [List.getElem_toArray, List.getElem_cons_succ, List.getElem_cons_zero, Act.put, List.setIfInBounds_toArray, List.set_cons_zero, List.set_cons_succ]
              refine wpAnyH_take (i := 18) (v := ?_) rfl (by kernel_rfl) (by kernel_rfl) (by kernel_rfl) (fun _ _ _ h => h) (Or.inl ⟨by rfl, ?_⟩) hHeld ?_
              rotate_left
              · intro w' hSw
                try dsimp only at hSw
                go_simp
                all_goals with_reducible rfl
              try simp only [List.getElem_toArray, List.getElem_cons_succ, List.getElem_cons_zero, Act.put, List.setIfInBounds_toArray, List.set_cons_zero, List.set_cons_succ]
              refine wpAnyH_ready (rs := [19]) (by kernel_rfl) (by simp) ?_
              refine AllReadyH.cons rfl (fun K hK => ?_) AllReadyH.nil
              go_simp
              refine (same_sa HV.out (last9 hHeld)).mono ?_
              rintro r w1 ⟨rfl, hb⟩
              go_wp2_with fail
              refine hK.out _ _ ?_ (fun hHeld => ?_)
              · (try dsimp only)
                exact SS.out _ ((last9 hHeld).next hb)
              clear hK K
              refine wpAnyH_take (i := 20) (v := ?_) rfl (by kernel_rfl) (by kernel_rfl) (by kernel_rfl) (fun _ _ _ h => h) (Or.inl ⟨by rfl, ?_⟩) hHeld ?_
              rotate_left
              · intro w' hSw
                try dsimp only at hSw
                go_simp
                all_goals with_reducible rfl
              try simp only [List.getElem_toArray, List.getElem_cons_succ, List.getElem_cons_zero, Act.put, List.setIfInBounds_toArray, List.set_cons_zero, List.set_cons_succ]
              refine wpAnyH_take (i := 21) (v := ?_) rfl (by kernel_rfl) (by kernel_rfl) (by kernel_rfl) (fun _ _ _ h => h) (Or.inl ⟨by rfl, ?_⟩) hHeld ?_
              rotate_left
              · intro w' hSw
                try dsimp only at hSw
                go_simp
                all_goals with_reducible rfl
              try simp only [List.getElem_toArray, List.getElem_cons_succ, List.getElem_cons_zero, Act.put, List.setIfInBounds_toArray, List.set_cons_zero, List.set_cons_succ]
              refine wpAnyH_take (i := 22) (v := ?_) rfl (by kernel_rfl) (by kernel_rfl) (by kernel_rfl) (fun _ _ _ h => h) (Or.inl ⟨by rfl, ?_⟩) hHeld ?_
              rotate_left
              · intro w' hSw
                try dsimp only at hSw
                go_simp
                all_goals with_reducible rfl
              try simp only [List.getElem_toArray, List.getElem_cons_succ, List.getElem_cons_zero, Act.put, List.setIfInBounds_toArray, List.set_cons_zero, List.set_cons_succ]
              refine wpAnyH_ready (rs := [23]) (by kernel_rfl) (by simp) ?_
              refine AllReadyH.cons rfl (fun K hK => ?_) AllReadyH.nil
              go_simp
              refine (awake_ok _).mono ?_
              rintro r w1 ⟨rfl, hb⟩
              go_wp2_with fail
              refine hK.out _ _ ?_ (fun hHeld => ?_)
              · (try dsimp only)
                exact SS.out _ ((last9 hHeld).next hb)
              clear hK K
              refine wpAnyH_take (i := 24) (v := ?_) rfl (by kernel_rfl) (by kernel_rfl) (by kernel_rfl) (fun _ _ _ h => h) (Or.inl ⟨by rfl, ?_⟩) hHeld ?_
              rotate_left
              · intro w' hSw
                try dsimp only at hSw
                go_simp
                all_goals with_reducible rfl
              try simp only [List.getElem_toArray, List.getElem_cons_succ, List.getElem_cons_zero, Act.put, List.setIfInBounds_toArray, List.set_cons_zero, List.set_cons_succ]
              refine wpAnyH_take (i := 25) (v := ?_) rfl (by kernel_rfl) (by kernel_rfl) (by kernel_rfl) (fun _ _ _ h => h) (Or.inl ⟨by rfl, ?_⟩) hHeld ?_
              rotate_left
              · intro w' hSw
                try dsimp only at hSw
                go_simp
                all_goals with_reducible rfl
              try simp only [List.getElem_toArray, List.getElem_cons_succ, List.getElem_cons_zero, Act.put, List.setIfInBounds_toArray, List.set_cons_zero, List.set_cons_succ]
              refine wpAnyH_done (by kernel_rfl) ?_ _
              all_goals
                go_wp2
                go_ret
                refine ⟨rfl, ?_⟩
                exact (last9 hHeld).b.bel
            · have d3 : decide (0 ≤ ob) = false := by simpa using h0
              replace h0 := hide h0
              clear x0 x1 x2 x3 x4 x5 x6 y1 y3 y4 xl yl
              have SS := hide (show ∀ W, SA w q ob od oe n1 M K L (φ) M2 K2 L2 φ W → W.cell? ⟨w.heap.size + 1, 1, none⟩ = some (.int .i64 ob) ∧ W.cell? ⟨w.heap.size, 0, none⟩ = some (.int .i64 q.a) ∧ W.cell? ⟨w.heap.size, 1, none⟩ = some (.int .i64 q.b) ∧ W.cell? ⟨w.heap.size, 2, none⟩ = some (.int .i64 q.c) ∧ W.cell? ⟨w.heap.size, 3, none⟩ = some (.int .i64 q.d) ∧ W.cell? ⟨w.heap.size, 4, none⟩ = some (.int .i64 q.e) ∧ W.cell? ⟨w.heap.size, 5, none⟩ = some (.int .i64 q.f) ∧ W.cell? ⟨w.heap.size, 6, none⟩ = some (.int .i64 q.g) ∧ SA w q ob od oe n1 M K L (φ) M2 K2 L2 φ W from fun W h => ⟨h.b.b1, h.b.box.2.1, h.b.box.2.2.1, h.b.box.2.2.2.1, h.b.box.2.2.2.2.1, h.b.box.2.2.2.2.2.1, h.b.box.2.2.2.2.2.2.1, h.b.box.2.2.2.2.2.2.2, h⟩)
              have TD := hide (T2.out.next (below_drew0 (Below.refl _ _)))
              obtain ⟨⟨xl, x0, x1, x2, x3, x4, x5, x6⟩, y1, y3, y4, yl, -⟩ := T2.out.b
              go_wp2_with fail
              refine wp_region_held_drew (S := (fun W => W.cell? ⟨w.heap.size + 1, 1, none⟩ = some (.int .i64 ob) ∧ W.cell? ⟨w.heap.size, 0, none⟩ = some (.int .i64 q.a) ∧ W.cell? ⟨w.heap.size, 1, none⟩ = some (.int .i64 q.b) ∧ W.cell? ⟨w.heap.size, 2, none⟩ = some (.int .i64 q.c) ∧ W.cell? ⟨w.heap.size, 3, none⟩ = some (.int .i64 q.d) ∧ W.cell? ⟨w.heap.size, 4, none⟩ = some (.int .i64 q.e) ∧ W.cell? ⟨w.heap.size, 5, none⟩ = some (.int .i64 q.f) ∧ W.cell? ⟨w.heap.size, 6, none⟩ = some (.int .i64 q.g) ∧ SA w q ob od oe n1 M K L (φ) M2 K2 L2 φ W)) (by kernel_rfl) ?_ (fun hHeld => ?_)
              · exact SS.out _ TD.out
              refine wpAnyH_take (i := 0) (v := ?_) rfl (by kernel_rfl) (by kernel_rfl) (by kernel_rfl) (fun _ _ _ h => h) (Or.inl ⟨by rfl, ?_⟩) hHeld ?_
              rotate_left
              · intro w' hSw
                try dsimp only at hSw
                go_simp
                all_goals with_reducible rfl
              try simp only [List.getElem_toArray, List.getElem_cons_succ, List.getElem_cons_zero, Act.put, List.setIfInBounds_toArray, List.set_cons_zero, List.set_cons_succ]
              refine wpAnyH_take (i := 1) (v := ?_) rfl (by kernel_rfl) (by kernel_rfl) (by kernel_rfl) (fun _ _ _ h => h) (Or.inl ⟨by rfl, ?_⟩) hHeld ?_
              rotate_left
              · intro w' hSw
                try dsimp only at hSw
                go_simp
                all_goals with_reducible rfl
              try simp only [List.getElem_toArray, List.getElem_cons_succ, List.getElem_cons_zero, Act.put, List.setIfInBounds_toArray, List.set_cons_zero, List.set_cons_succ]
              refine wpAnyH_take (i := 2) (v := ?_) rfl (by kernel_rfl) (by kernel_rfl) (by kernel_rfl) (fun _ _ _ h => h) (Or.inl ⟨by rfl, ?_⟩) hHeld ?_
              rotate_left
              · intro w' hSw
                try dsimp only at hSw
                go_simp
                all_goals with_reducible rfl
              try simp only [List.getElem_toArray, List.getElem_cons_succ, List.getElem_cons_zero, Act.put, List.setIfInBounds_toArray, List.set_cons_zero, List.set_cons_succ]
              refine wpAnyH_take (i := 3) (v := ?_) rfl (by kernel_rfl) (by kernel_rfl) (by kernel_rfl) (fun _ _ _ h => h) (Or.inl ⟨by rfl, ?_⟩) hHeld ?_
              rotate_left
              · intro w' hSw
                try dsimp only at hSw
                go_simp
                all_goals with_reducible rfl
              try simp only [List.getElem_toArray, List.getElem_cons_succ, List.getElem_cons_zero, Act.put, List.setIfInBounds_toArray, List.set_cons_zero, List.set_cons_succ]
              refine wpAnyH_take (i := 4) (v := ?_) rfl (by kernel_rfl) (by kernel_rfl) (by kernel_rfl) (fun _ _ _ h => h) (Or.inl ⟨by rfl, ?_⟩) hHeld ?_
              rotate_left
              · intro w' hSw
                try dsimp only at hSw
                go_simp
                all_goals with_reducible rfl
              try simp only [List.getElem_toArray, List.getElem_cons_succ, List.getElem_cons_zero, Act.put, List.setIfInBounds_toArray, List.set_cons_zero, List.set_cons_succ]
              refine wpAnyH_take (i := 5) (v := ?_) rfl (by kernel_rfl) (by kernel_rfl) (by kernel_rfl) (fun _ _ _ h => h) (Or.inl ⟨by rfl, ?_⟩) hHeld ?_
              rotate_left
              · intro w' hSw
                try dsimp only at hSw
                go_simp
                all_goals with_reducible rfl
              try simp only [List.getElem_toArray, List.getElem_cons_succ, List.getElem_cons_zero, Act.put, List.setIfInBounds_toArray, List.set_cons_zero, List.set_cons_succ]
              refine wpAnyH_take (i := 6) (v := undef) rfl (by kernel_rfl) (by kernel_rfl) (by kernel_rfl) (fun _ _ _ h => h) (Or.inr ⟨by rfl, rfl⟩) hHeld ?_
              try simp only [List.getElem_toArray, List.getElem_cons_succ, List.getElem_cons_zero, Act.put, List.setIfInBounds_toArray, List.set_cons_zero, List.set_cons_succ]
              refine wpAnyH_take (i := 7) (v := undef) rfl (by kernel_rfl) (by kernel_rfl) (by kernel_rfl) (fun _ _ _ h => h) (Or.inr ⟨by rfl, rfl⟩) hHeld ?_
              try simp only [List.getElem_toArray, List.getElem_cons_succ, List.getElem_cons_zero, Act.put, List.setIfInBounds_toArray, List.set_cons_zero, List.set_cons_succ]
              refine wpAnyH_take (i := 8) (v := undef) rfl (by kernel_rfl) (by kernel_rfl) (by kernel_rfl) (fun _ _ _ h => h) (Or.inr ⟨by rfl, rfl⟩) hHeld ?_
              try simp only [List.getElem_toArray, List.getElem_cons_succ, List.getElem_cons_zero, Act.put, List.setIfInBounds_toArray, List.set_cons_zero, List.set_cons_succ]
              refine wpAnyH_take (i := 9) (v := undef) rfl (by kernel_rfl) (by kernel_rfl) (by kernel_rfl) (fun _ _ _ h => h) (Or.inr ⟨by rfl, rfl⟩) hHeld ?_
              try simp only [List.getElem_toArray, List.getElem_cons_succ, List.getElem_cons_zero, Act.put, List.setIfInBounds_toArray, List.set_cons_zero, List.set_cons_succ]
              refine wpAnyH_take (i := 10) (v := undef) rfl (by kernel_rfl) (by kernel_rfl) (by kernel_rfl) (fun _ _ _ h => h) (Or.inr ⟨by rfl, rfl⟩) hHeld ?_
              try simp only [List.getElem_toArray, List.getElem_cons_succ, List.getElem_cons_zero, Act.put, List.setIfInBounds_toArray, List.set_cons_zero, List.set_cons_succ]
              refine wpAnyH_take (i := 11) (v := ?_) rfl (by kernel_rfl) (by kernel_rfl) (by kernel_rfl) (fun _ _ _ h => h) (Or.inl ⟨by rfl, ?_⟩) hHeld ?_
              rotate_left
              · intro w' hSw
                try dsimp only at hSw
                go_simp
                all_goals with_reducible rfl
              try simp only [List.getElem_toArray, List.getElem_cons_succ, List.getElem_cons_zero, Act.put, List.setIfInBounds_toArray, List.set_cons_zero, List.set_cons_succ]
              refine wpAnyH_take (i := 12) (v := ?_) rfl (by kernel_rfl) (by kernel_rfl) (by kernel_rfl) (fun _ _ _ h => h) (Or.inl ⟨by rfl, ?_⟩) hHeld ?_
              rotate_left
              · intro w' hSw
                try dsimp only at hSw
                go_simp
                all_goals with_reducible rfl
              try simp only [List.getElem_toArray, List.getElem_cons_succ, List.getElem_cons_zero, Act.put, List.setIfInBounds_toArray, List.set_cons_zero, List.set_cons_succ]
              refine wpAnyH_take (i := 13) (v := ?_) rfl (by kernel_rfl) (by kernel_rfl) (by kernel_rfl) (fun _ _ _ h => h) (Or.inl ⟨by rfl, ?_⟩) hHeld ?_
              rotate_left
              · intro w' hSw
                try dsimp only at hSw
                go_simp
                all_goals with_reducible rfl
              try simp only [List.getElem_toArray, List.getElem_cons_succ, List.getElem_cons_zero, Act.put, List.setIfInBounds_toArray, List.set_cons_zero, List.set_cons_succ]
              refine wpAnyH_take (i := 14) (v := ?_) rfl (by kernel_rfl) (by kernel_rfl) (by kernel_rfl) (fun _ _ _ h => h) (Or.inl ⟨by rfl, ?_⟩) hHeld ?_
              rotate_left
              · intro w' hSw
                try dsimp only at hSw
                go_simp
                all_goals with_reducible rfl
              try simp only [List.getElem_toArray, List.getElem_cons_succ, List.getElem_cons_zero, Act.put, List.setIfInBounds_toArray, List.set_cons_zero, List.set_cons_succ]
              refine wpAnyH_take (i := 15) (v := ?_) rfl (by kernel_rfl) (by kernel_rfl) (by kernel_rfl) (fun _ _ _ h => h) (Or.inl ⟨by rfl, ?_⟩) hHeld ?_
              rotate_left
              · intro w' hSw
                try dsimp only at hSw
                go_simp
                all_goals with_reducible rfl
              try simp only [List.getElem_toArray, List.getElem_cons_succ, List.getElem_cons_zero, Act.put, List.setIfInBounds_toArray, List.set_cons_zero, List.set_cons_succ]
              refine wpAnyH_take (i := 16) (v := ?_) rfl (by kernel_rfl) (by kernel_rfl) (by kernel_rfl) (fun _ _ _ h => h) (Or.inl ⟨by rfl, ?_⟩) hHeld ?_
              rotate_left
              · intro w' hSw
                try dsimp only at hSw
                go_simp
                all_goals with_reducible rfl
              try simp only [List.getElem_toArray, List.getElem_cons_succ, List.getElem_cons_zero, Act.put, List.setIfInBounds_toArray, List.set_cons_zero, List.set_cons_succ]
              refine wpAnyH_take (i := 17) (v := ?_) rfl (by kernel_rfl) (by kernel_rfl) (by kernel_rfl) (fun _ _ _ h => h) (Or.inl ⟨by rfl, ?_⟩) hHeld ?_
              rotate_left
              · intro w' hSw
                try dsimp only at hSw
                go_simp
                all_goals with_reducible rfl
              try simp only [List.getElem_toArray, List.getElem_cons_succ, List.getElem_cons_zero, Act.put, List.setIfInBounds_toArray, List.set_cons_zero, List.set_cons_succ]
              refine wpAnyH_take (i := 18) (v := ?_) rfl (by kernel_rfl) (by kernel_rfl) (by kernel_rfl) (fun _ _ _ h => h) (Or.inl ⟨by rfl, ?_⟩) hHeld ?_
              rotate_left
              · intro w' hSw
                try dsimp only at hSw
                go_simp
                all_goals with_reducible rfl
              try simp only [List.getElem_toArray, List.getElem_cons_succ, List.getElem_cons_zero, Act.put, List.setIfInBounds_toArray, List.set_cons_zero, List.set_cons_succ]
              refine wpAnyH_ready (rs := [19]) (by kernel_rfl) (by simp) ?_
              refine AllReadyH.cons rfl (fun K hK => ?_) AllReadyH.nil
              go_simp
              refine (same_sa HV.out (last9 hHeld)).mono ?_
              rintro r w1 ⟨rfl, hb⟩
              go_wp2_with fail
              refine hK.out _ _ ?_ (fun hHeld => ?_)
              · (try dsimp only)
                exact SS.out _ ((last9 hHeld).next hb)
              clear hK K
              refine wpAnyH_take (i := 20) (v := ?_) rfl (by kernel_rfl) (by kernel_rfl) (by kernel_rfl) (fun _ _ _ h => h) (Or.inl ⟨by rfl, ?_⟩) hHeld ?_
              rotate_left
              · intro w' hSw
                try dsimp only at hSw
                go_simp
                all_goals with_reducible rfl
              try simp only [List.getElem_toArray, List.getElem_cons_succ, List.getElem_cons_zero, Act.put, List.setIfInBounds_toArray, List.set_cons_zero, List.set_cons_succ]
              refine wpAnyH_take (i := 21) (v := ?_) rfl (by kernel_rfl) (by kernel_rfl) (by kernel_rfl) (fun _ _ _ h => h) (Or.inl ⟨by rfl, ?_⟩) hHeld ?_
              rotate_left
              · intro w' hSw
                try dsimp only at hSw
                go_simp
                all_goals with_reducible rfl
              try simp only [List.getElem_toArray, List.getElem_cons_succ, List.getElem_cons_zero, Act.put, List.setIfInBounds_toArray, List.set_cons_zero, List.set_cons_succ]
              refine wpAnyH_take (i := 22) (v := ?_) rfl (by kernel_rfl) (by kernel_rfl) (by kernel_rfl) (fun _ _ _ h => h) (Or.inl ⟨by rfl, ?_⟩) hHeld ?_
              rotate_left
              · intro w' hSw
                try dsimp only at hSw
                go_simp
                all_goals with_reducible rfl
              try simp only [List.getElem_toArray, List.getElem_cons_succ, List.getElem_cons_zero, Act.put, List.setIfInBounds_toArray, List.set_cons_zero, List.set_cons_succ]
              refine wpAnyH_ready (rs := [23]) (by kernel_rfl) (by simp) ?_
              refine AllReadyH.cons rfl (fun K hK => ?_) AllReadyH.nil
              go_simp
              refine (awake_ok _).mono ?_
              rintro r w1 ⟨rfl, hb⟩
              go_wp2_with fail
              refine hK.out _ _ ?_ (fun hHeld => ?_)
              · (try dsimp only)
                exact SS.out _ ((last9 hHeld).next hb)
              clear hK K
              refine wpAnyH_take (i := 24) (v := ?_) rfl (by kernel_rfl) (by kernel_rfl) (by kernel_rfl) (fun _ _ _ h => h) (Or.inl ⟨by rfl, ?_⟩) hHeld ?_
              rotate_left
              · intro w' hSw
                try dsimp only at hSw
                go_simp
                all_goals with_reducible rfl
              try simp only [List.getElem_toArray, List.getElem_cons_succ, List.getElem_cons_zero, Act.put, List.setIfInBounds_toArray, List.set_cons_zero, List.set_cons_succ]
              refine wpAnyH_take (i := 25) (v := ?_) rfl (by kernel_rfl) (by kernel_rfl) (by kernel_rfl) (fun _ _ _ h => h) (Or.inl ⟨by rfl, ?_⟩) hHeld ?_
              rotate_left
              · intro w' hSw
                try dsimp only at hSw
                go_simp
                all_goals with_reducible rfl
              try simp only [List.getElem_toArray, List.getElem_cons_succ, List.getElem_cons_zero, Act.put, List.setIfInBounds_toArray, List.set_cons_zero, List.set_cons_succ]
              refine wpAnyH_done (by kernel_rfl) ?_ _
              all_goals
                go_wp2
                go_ret
                refine ⟨rfl, ?_⟩
                exact (last9 hHeld).b.bel
end Go.Proofs.Ytofgpcdhgkeccaa
