/- TableApart, walked. -/
import Derived.Test.YtdpdofdfdjcpoaaR
import Derived.WalkKit
import Derived.WalkSpells
import Derived.ProofKit
import Derived.Outline
import Derived.Handy
import Derived.RowKit3
import Derived.BigQuiet
import Derived.Deep.QuietTactic
import Derived.Deep.RegionHeld3
import Derived.Deep.Draws
import Derived.RegionTactic
import Derived.BigRegion
import Derived.IntWalk
import Derived.LoopTactic
import Derived.OwnWalk
import Derived.Laws.AppendOwn
import Derived.Laws.OwnMore
import Derived.Laws.MakeOwn
import Derived.Laws.Pointers
import Derived.Maps.AppendAt
import Derived.Below
namespace Go.Proofs.Ytdpdofdfdjcpoaa
open Go.RowKit
set_option linter.unusedVariables false
set_option maxRecDepth 100000

theorem rgroups_any (n mn : Nat) (h1 : 1 ≤ n) (hn : n ≤ 16) (hm : (n + 3) / 4 = mn) (w : World) : Calls Try.prog 32 #[.int .i64 n] w fun r w' => r = .returned (.int .i64 (mn : Int)) ∧ w = w' := by
  have hm4 : mn ≤ 4 := by omega
  have hA := hide (show ∀ k, k < mn → 4 * k < n from fun k hk => by omega)
  have hB := hide (show n ≤ 4 * mn by omega)
  clear hm
  go_enter Try.func32, Try.ntmps32
  go_wp2
  go_loop [3] (fun v3 => ∃ k : Nat, k ≤ mn ∧ v3 = .int .i64 k) (fun v3 => mn - (intOf v3).toNat)
  case atStart => exact ⟨0, Nat.zero_le _, rfl⟩
  case round =>
    obtain ⟨k, hk, rfl⟩ := hrel
    by_cases hlt : k < mn
    · have h4 := hA.out k hlt
      have h5 : (k : Int) * 4 < n := by omega
      go_wp2
      go_round
      case rel => exact ⟨k + 1, by omega, int_eq (by omega)⟩
      case measure => simp [intOf]; omega
    · obtain rfl : k = mn := by omega
      have h5 : ¬ (k : Int) * 4 < n := by have := hB.out; omega
      go_wp2
      go_ret
      exact ⟨rfl, rfl⟩
theorem own_any (n mn k : Nat) (h1 : 1 ≤ n) (hn : n ≤ 16) (hm : (n + 3) / 4 = mn) (hk : k < n) (w : World) : Calls Try.prog 22 #[.int .i64 n, .int .i64 k] w fun r w' => r = .returned (.int .i64 ((mn : Int) + k)) ∧ w = w' := by
  have hm4 : mn ≤ 4 := by omega
  have HM := hide hm
  clear hm
  go_enter Try.func22, Try.ntmps22
  go_wp2_with fail
  refine (rgroups_any n mn h1 hn HM.out _).mono ?_
  rintro r w1 ⟨rfl, rfl⟩
  go_wp2
  go_ret
  exact ⟨rfl, rfl⟩
theorem own_zero (n mn : Nat) (h1 : 1 ≤ n) (hn : n ≤ 16) (hm : (n + 3) / 4 = mn) (w : World) : Calls Try.prog 22 #[.int .i64 n, .int .i64 0] w fun r w' => r = .returned (.int .i64 (mn : Int)) ∧ w = w' := by
  refine (own_any n mn 0 h1 hn hm (by omega) w).mono ?_
  rintro r w1 ⟨rfl, h⟩
  exact ⟨ret_int (by omega), h⟩
theorem wd_same {mn n g at_ : Nat} {o : Nat → Int} {l : Nat → Bool} {x : Int} {b : Bool} (h : at_ < mn) (hne : at_ ≠ g / 4) : wdF mn n (upd o g x) (upd l g b) at_ = wdF mn n o l at_ := by
  have e : ∀ i, i < 4 → 4 * at_ + i ≠ g := fun i hi e => hne (by omega)
  have eo : ∀ i, i < 4 → upd o g x (4 * at_ + i) = o (4 * at_ + i) := fun i hi => by unfold upd; rw [if_neg (e i hi)]
  have el : ∀ i, i < 4 → upd l g b (4 * at_ + i) = l (4 * at_ + i) := fun i hi => by unfold upd; rw [if_neg (e i hi)]
  have e0 : upd o g x (4 * at_) = o (4 * at_) := eo 0 (by omega)
  have hp : plB n (upd o g x) (upd l g b) at_ = plB n o l at_ := by
    rw [Bool.eq_iff_iff, plB_iff, plB_iff]
    constructor
    · intro h i hi hn; have := h i hi hn; rw [eo i hi, el i hi, e0] at this; exact this
    · intro h i hi hn; rw [eo i hi, el i hi, e0]; exact h i hi hn
  unfold wdF
  rw [if_pos h, if_pos h, hp, e0]
def ApRel (n m P E P2 E2 : Nat) (o' : Nat → Int) (l' : Nat → Bool) (o : Nat → Int) (l : Nat → Bool) (y x : Int) (b : Bool) (w : World) (v : Value) (wr : World) : Prop :=
  ∃ k : Nat, k ≤ m ∧ v = .int .i64 k ∧ Tb wr P E n o' l' ∧ Tb wr P2 E2 n o l ∧ Cs wr w.heap.size (opF y x b) 3 ∧ Below w.heap.size w wr

set_option maxHeartbeats 8000000 in
theorem apart_out (n : Nat) (h1 : 1 ≤ n) (hn : n ≤ 16) (av : Option Addr) (L c : Nat) (hL : L ≤ 40) (G X : Nat → Int) (B : Nat → Bool) (y x : Int) (b : Bool) (hy : ¬ (0 ≤ y ∧ y < n)) (w : World) (hl : OpsIn w av L G X B) :
    Calls Try.prog 8 #[.int .i64 n, .slice av L c, .agg #[.int .i64 y, .int .i64 x, .bool b]] w fun r w' => r = .returned (.bool true) ∧ Below w.heap.size w w' := by
  replace hl := hide hl
  obtain ⟨mn, hm⟩ : ∃ mn : Nat, (n + 3) / 4 = mn := ⟨_, rfl⟩
  have hm4 : mn ≤ 4 := by omega
  have HM := hide hm
  clear hm
  have hL40 : (L : Int) ≤ 40 := by omega
  replace hy := hide hy
  go_enter Try.func8, Try.ntmps8
  go_wp2_with fail
  have BX := op_new w y x b 44
  refine (made_any n h1 hn av L c hL G X B _ (ops_next hl.out ((Below.refl _ _).alloc (Nat.le_refl _) _))).mono ?_
  rintro r w1 ⟨P, E, R, rfl, hT, -, hP, hE, -, -, -, hb1⟩
  have q1 := hide (below_alloc hb1)
  have BX := hide (BX.next hb1)
  have hE5 : w.heap.size < E := Nat.lt_of_lt_of_le (by simp) hE
  have hE5n : w.heap.size ≠ E := by omega
  have ho := stO_in n G X L
  generalize stO n G X L = o at hT ho
  generalize stL n G X B L = l at hT
  clear hb1 hP
  replace ho := hide ho
  replace hT := hide hT
  go_wp2_with fail
  refine (copy_any P E n o l hn h1 _ hT.out).mono ?_
  rintro r w2 ⟨P2, E2, rfl, hTB, hP2, hEE, hb2⟩
  have TB2 := hide hTB
  have TA2 := hide (hT.out.next hb2)
  have BX := hide (BX.out.next hb2)
  have q2 := hide (below_step q1.out q1.out.size hb2)
  have hEP2 : P2 ≠ E := by have := hT.out.2.1; omega
  have hEE2 : E2 ≠ E := by have := hT.out.2.1; omega
  have k0 : w2.cell? ⟨w.heap.size, 0, none⟩ = some (.int .i64 y) := BX.out.2 0 (by omega)
  have k1 : w2.cell? ⟨w.heap.size, 1, none⟩ = some (.int .i64 x) := BX.out.2 1 (by omega)
  have k2 : w2.cell? ⟨w.heap.size, 2, none⟩ = some (.bool b) := BX.out.2 2 (by omega)
  clear hTB hb2
  go_wp2_with fail
  refine (set_out P E n y o l x b hy.out _ TA2.out).mono ?_
  rintro r w3 ⟨rfl, hb3⟩
  have TA3 := hide (TA2.out.next hb3)
  have TB3 := hide (TB2.out.next hb3)
  have BX3 := hide (BX.out.next hb3)
  have q3 := hide (below_step q2.out q2.out.size hb3)
  have ho1 := ho
  clear k0 k1 k2
  go_wp2
  go_loopw [12] (fun v12 wr => ApRel n n P E P2 E2 o l o l y x b w v12 wr) (fun v12 _ => n - (intOf v12).toNat)
  case atStart => exact ⟨0, Nat.zero_le _, rfl, TA3.out, TB3.out, BX3.out, q3.out⟩
  case round =>
    obtain ⟨k, hk, rfl, TA, TB, BX, hB⟩ := hrel
    replace TA := hide TA
    replace TB := hide TB
    replace BX := hide BX
    by_cases hlt : k < n
    · obtain ⟨z, hz⟩ : ∃ z, wdF mn n o l (mn + k) = z := ⟨_, rfl⟩
      have X1 := hide hz
      have X2 := hide hz
      clear hz
      go_wp2_with fail
      refine (get_yes P E n k o l hlt _ TA.out).mono ?_
      rintro r w6 ⟨rfl, hb6⟩
      have A6 := hide (en_new w6 (o k) (l k) 35)
      have q6 := hide (below_step hB hB.size hb6)
      go_wp2_with fail
      refine (get_yes P2 E2 n k o l hlt _ ((TB.out.next hb6).alloc _)).mono ?_
      rintro r w7 ⟨rfl, hb7⟩
      have TA7 := hide (((TA.out.next hb6).alloc (.cells #[.int .i64 (o k), .bool (l k)] 35)).next hb7)
      have TB7 := hide (((TB.out.next hb6).alloc (.cells #[.int .i64 (o k), .bool (l k)] 35)).next hb7)
      have BX7 := hide (((BX.out.next hb6).alloc (.cells #[.int .i64 (o k), .bool (l k)] 35)).next hb7)
      have A7 := hide (A6.out.next hb7)
      have B7 := hide (en_new w7 (o k) (l k) 35)
      have q7 := hide (below_step q6.out q6.out.size (below_alloc hb7))
      go_wp2_with fail
      refine (own_any n mn k h1 hn HM.out hlt _).mono ?_
      rintro r w8 ⟨rfl, rfl⟩
      go_wp2_with fail
      refine (word_own mn P E n k o l _ h1 hn HM.out ho1.out hlt X1.out _ (TA7.out.alloc _)).mono ?_
      rintro r w8 ⟨rfl, hb8⟩
      have TA8 := hide ((TA7.out.alloc (.cells #[.int .i64 (o k), .bool (l k)] 35)).next hb8)
      have TB8 := hide ((TB7.out.alloc (.cells #[.int .i64 (o k), .bool (l k)] 35)).next hb8)
      have BX8 := hide ((BX7.out.alloc (.cells #[.int .i64 (o k), .bool (l k)] 35)).next hb8)
      have A8 := hide ((A7.out.alloc (.cells #[.int .i64 (o k), .bool (l k)] 35)).next hb8)
      have B8 := hide (B7.out.next hb8)
      have q8 := hide (below_step q7.out q7.out.size (below_alloc hb8))
      go_wp2_with fail
      refine (own_any n mn k h1 hn HM.out hlt _).mono ?_
      rintro r w9 ⟨rfl, rfl⟩
      go_wp2_with fail
      refine (word_own mn P2 E2 n k o l _ h1 hn HM.out ho.out hlt X2.out _ TB8.out).mono ?_
      rintro r w9 ⟨rfl, hb9⟩
      have TA9 := hide (TA8.out.next hb9)
      have TB9 := hide (TB8.out.next hb9)
      have BX9 := hide (BX8.out.next hb9)
      have A9 := A8.out.next hb9
      have B9 := B8.out.next hb9
      have q9 := hide (below_step q8.out q8.out.size hb9)
      have a0 : w9.cell? ⟨w6.heap.size, 0, none⟩ = some (.int .i64 (o k)) := A9.2 0 (by omega)
      have a1 : w9.cell? ⟨w6.heap.size, 1, none⟩ = some (.bool (l k)) := A9.2 1 (by omega)
      have b0 : w9.cell? ⟨w7.heap.size, 0, none⟩ = some (.int .i64 (o k)) := B9.2 0 (by omega)
      have b1 : w9.cell? ⟨w7.heap.size, 1, none⟩ = some (.bool (l k)) := B9.2 1 (by omega)
      have c0 : w9.cell? ⟨w.heap.size, 0, none⟩ = some (.int .i64 y) := BX9.out.2 0 (by omega)
      have c1 : w9.cell? ⟨w.heap.size, 1, none⟩ = some (.int .i64 x) := BX9.out.2 1 (by omega)
      have c2 : w9.cell? ⟨w.heap.size, 2, none⟩ = some (.bool b) := BX9.out.2 2 (by omega)
      clear A9 B9
      by_cases hky : (k : Int) = y
      · have f1 : ((k : Int) == y) = true := by simpa using hky
        replace hky := hide hky
        go_wp2
        go_roundw
        case rel => exact ⟨k + 1, by omega, int_eq (by omega), TA9.out, TB9.out, BX9.out, q9.out⟩
        case measure => simp [intOf]; omega
      · have f1 : ((k : Int) == y) = false := by simpa using hky
        replace hky := hide hky
        go_wp2
        go_roundw
        case rel => exact ⟨k + 1, by omega, int_eq (by omega), TA9.out, TB9.out, BX9.out, q9.out⟩
        case measure => simp [intOf]; omega
    · have hkn : ¬ ((k : Int) < n) := by omega
      go_wp2
      go_loopw [21] (fun v21 wr => ApRel n mn P E P2 E2 o l o l y x b w v21 wr) (fun v21 _ => mn - (intOf v21).toNat)
      case atStart => exact ⟨0, Nat.zero_le _, rfl, TA.out, TB.out, BX.out, hB⟩
      case round =>
        obtain ⟨k, hk, rfl, TA, TB, BX, hB⟩ := hrel
        replace TA := hide TA
        replace TB := hide TB
        replace BX := hide BX
        by_cases hlt : k < mn
        · go_wp2_with fail
          refine (own_zero n mn h1 hn HM.out _).mono ?_
          rintro r w6 ⟨rfl, rfl⟩
          go_wp2_with fail
          refine (word_in mn P E n k o l _ h1 hn HM.out ho1.out (by omega) rfl _ TA.out).mono ?_
          rintro r w6 ⟨rfl, hb6⟩
          have q6 := hide (below_step hB hB.size hb6)
          go_wp2_with fail
          refine (word_in mn P2 E2 n k o l _ h1 hn HM.out ho.out (by omega) rfl _ (TB.out.next hb6)).mono ?_
          rintro r w7 ⟨rfl, hb7⟩
          have q7 := hide (below_step q6.out q6.out.size hb7)
          have TA7 := hide ((TA.out.next hb6).next hb7)
          have TB7 := hide ((TB.out.next hb6).next hb7)
          have BX7 := hide ((BX.out.next hb6).next hb7)
          have c0 : w7.cell? ⟨w.heap.size, 0, none⟩ = some (.int .i64 y) := BX7.out.2 0 (by omega)
          go_wp2
          go_roundw
          case rel => exact ⟨k + 1, by omega, int_eq (by omega), TA7.out, TB7.out, BX7.out, q7.out⟩
          case measure => simp [intOf]; omega
        · obtain rfl : k = mn := by omega
          go_wp2_with fail
          refine (own_zero n k h1 hn HM.out _).mono ?_
          rintro r w6 ⟨rfl, rfl⟩
          go_wp2_with fail
          refine (awake_ok _).mono ?_
          rintro r w7 ⟨rfl, hb7⟩
          go_wp2
          go_ret
          exact ⟨rfl, below_step hB hB.size hb7⟩

set_option maxHeartbeats 8000000 in
theorem apart_bad (n : Nat) (h1 : 1 ≤ n) (hn : n ≤ 16) (av : Option Addr) (L c : Nat) (hL : L ≤ 40) (G X : Nat → Int) (B : Nat → Bool) (y x : Int) (b : Bool) (g : Nat) (hy : y = g) (hg : g < n) (hx : ¬ (0 ≤ x ∧ x ≤ 4)) (w : World) (hl : OpsIn w av L G X B) :
    Calls Try.prog 8 #[.int .i64 n, .slice av L c, .agg #[.int .i64 y, .int .i64 x, .bool b]] w fun r w' => r = .returned (.bool true) ∧ Below w.heap.size w w' := by
  subst hy
  replace hl := hide hl
  obtain ⟨mn, hm⟩ : ∃ mn : Nat, (n + 3) / 4 = mn := ⟨_, rfl⟩
  have hm4 : mn ≤ 4 := by omega
  have HM := hide hm
  clear hm
  have hL40 : (L : Int) ≤ 40 := by omega
  have HX := hide (decide_eq_false hx)
  replace hx := hide hx
  go_enter Try.func8, Try.ntmps8
  go_wp2_with fail
  have BX := op_new w (g : Int) x b 44
  refine (made_any n h1 hn av L c hL G X B _ (ops_next hl.out ((Below.refl _ _).alloc (Nat.le_refl _) _))).mono ?_
  rintro r w1 ⟨P, E, R, rfl, hT, -, hP, hE, -, -, -, hb1⟩
  have q1 := hide (below_alloc hb1)
  have BX := hide (BX.next hb1)
  have hE5 : w.heap.size < E := Nat.lt_of_lt_of_le (by simp) hE
  have hE5n : w.heap.size ≠ E := by omega
  have ho := stO_in n G X L
  generalize stO n G X L = o at hT ho
  generalize stL n G X B L = l at hT
  clear hb1 hP
  replace ho := hide ho
  replace hT := hide hT
  go_wp2_with fail
  refine (copy_any P E n o l hn h1 _ hT.out).mono ?_
  rintro r w2 ⟨P2, E2, rfl, hTB, hP2, hEE, hb2⟩
  have TB2 := hide hTB
  have TA2 := hide (hT.out.next hb2)
  have BX := hide (BX.out.next hb2)
  have q2 := hide (below_step q1.out q1.out.size hb2)
  have hEP2 : P2 ≠ E := by have := hT.out.2.1; omega
  have hEE2 : E2 ≠ E := by have := hT.out.2.1; omega
  have k0 : w2.cell? ⟨w.heap.size, 0, none⟩ = some (.int .i64 g) := BX.out.2 0 (by omega)
  have k1 : w2.cell? ⟨w.heap.size, 1, none⟩ = some (.int .i64 x) := BX.out.2 1 (by omega)
  have k2 : w2.cell? ⟨w.heap.size, 2, none⟩ = some (.bool b) := BX.out.2 2 (by omega)
  clear hTB hb2
  go_wp2_with fail
  refine (set_bad P E n g o l x b hg HX.out _ TA2.out).mono ?_
  rintro r w3 ⟨rfl, hb3⟩
  have TA3 := hide (TA2.out.next hb3)
  have TB3 := hide (TB2.out.next hb3)
  have BX3 := hide (BX.out.next hb3)
  have q3 := hide (below_step q2.out q2.out.size hb3)
  have ho1 := ho
  clear k0 k1 k2
  go_wp2
  go_loopw [12] (fun v12 wr => ApRel n n P E P2 E2 o l o l g x b w v12 wr) (fun v12 _ => n - (intOf v12).toNat)
  case atStart => exact ⟨0, Nat.zero_le _, rfl, TA3.out, TB3.out, BX3.out, q3.out⟩
  case round =>
    obtain ⟨k, hk, rfl, TA, TB, BX, hB⟩ := hrel
    replace TA := hide TA
    replace TB := hide TB
    replace BX := hide BX
    by_cases hlt : k < n
    · obtain ⟨z, hz⟩ : ∃ z, wdF mn n o l (mn + k) = z := ⟨_, rfl⟩
      have X1 := hide hz
      have X2 := hide hz
      clear hz
      go_wp2_with fail
      refine (get_yes P E n k o l hlt _ TA.out).mono ?_
      rintro r w6 ⟨rfl, hb6⟩
      have A6 := hide (en_new w6 (o k) (l k) 35)
      have q6 := hide (below_step hB hB.size hb6)
      go_wp2_with fail
      refine (get_yes P2 E2 n k o l hlt _ ((TB.out.next hb6).alloc _)).mono ?_
      rintro r w7 ⟨rfl, hb7⟩
      have TA7 := hide (((TA.out.next hb6).alloc (.cells #[.int .i64 (o k), .bool (l k)] 35)).next hb7)
      have TB7 := hide (((TB.out.next hb6).alloc (.cells #[.int .i64 (o k), .bool (l k)] 35)).next hb7)
      have BX7 := hide (((BX.out.next hb6).alloc (.cells #[.int .i64 (o k), .bool (l k)] 35)).next hb7)
      have A7 := hide (A6.out.next hb7)
      have B7 := hide (en_new w7 (o k) (l k) 35)
      have q7 := hide (below_step q6.out q6.out.size (below_alloc hb7))
      go_wp2_with fail
      refine (own_any n mn k h1 hn HM.out hlt _).mono ?_
      rintro r w8 ⟨rfl, rfl⟩
      go_wp2_with fail
      refine (word_own mn P E n k o l _ h1 hn HM.out ho1.out hlt X1.out _ (TA7.out.alloc _)).mono ?_
      rintro r w8 ⟨rfl, hb8⟩
      have TA8 := hide ((TA7.out.alloc (.cells #[.int .i64 (o k), .bool (l k)] 35)).next hb8)
      have TB8 := hide ((TB7.out.alloc (.cells #[.int .i64 (o k), .bool (l k)] 35)).next hb8)
      have BX8 := hide ((BX7.out.alloc (.cells #[.int .i64 (o k), .bool (l k)] 35)).next hb8)
      have A8 := hide ((A7.out.alloc (.cells #[.int .i64 (o k), .bool (l k)] 35)).next hb8)
      have B8 := hide (B7.out.next hb8)
      have q8 := hide (below_step q7.out q7.out.size (below_alloc hb8))
      go_wp2_with fail
      refine (own_any n mn k h1 hn HM.out hlt _).mono ?_
      rintro r w9 ⟨rfl, rfl⟩
      go_wp2_with fail
      refine (word_own mn P2 E2 n k o l _ h1 hn HM.out ho.out hlt X2.out _ TB8.out).mono ?_
      rintro r w9 ⟨rfl, hb9⟩
      have TA9 := hide (TA8.out.next hb9)
      have TB9 := hide (TB8.out.next hb9)
      have BX9 := hide (BX8.out.next hb9)
      have A9 := A8.out.next hb9
      have B9 := B8.out.next hb9
      have q9 := hide (below_step q8.out q8.out.size hb9)
      have a0 : w9.cell? ⟨w6.heap.size, 0, none⟩ = some (.int .i64 (o k)) := A9.2 0 (by omega)
      have a1 : w9.cell? ⟨w6.heap.size, 1, none⟩ = some (.bool (l k)) := A9.2 1 (by omega)
      have b0 : w9.cell? ⟨w7.heap.size, 0, none⟩ = some (.int .i64 (o k)) := B9.2 0 (by omega)
      have b1 : w9.cell? ⟨w7.heap.size, 1, none⟩ = some (.bool (l k)) := B9.2 1 (by omega)
      have c0 : w9.cell? ⟨w.heap.size, 0, none⟩ = some (.int .i64 g) := BX9.out.2 0 (by omega)
      have c1 : w9.cell? ⟨w.heap.size, 1, none⟩ = some (.int .i64 x) := BX9.out.2 1 (by omega)
      have c2 : w9.cell? ⟨w.heap.size, 2, none⟩ = some (.bool b) := BX9.out.2 2 (by omega)
      clear A9 B9
      by_cases hky : (k : Int) = g
      · have f1 : ((k : Int) == g) = true := by simpa using hky
        replace hky := hide hky
        have f2 : (k == g) = true := by have := hky.out; simp; omega
        go_wp2
        go_roundw
        case rel => exact ⟨k + 1, by omega, int_eq (by omega), TA9.out, TB9.out, BX9.out, q9.out⟩
        case measure => simp [intOf]; omega
      · have f1 : ((k : Int) == g) = false := by simpa using hky
        replace hky := hide hky
        have f2 : (k == g) = false := by have := hky.out; simp; omega
        go_wp2
        go_roundw
        case rel => exact ⟨k + 1, by omega, int_eq (by omega), TA9.out, TB9.out, BX9.out, q9.out⟩
        case measure => simp [intOf]; omega
    · have hkn : ¬ ((k : Int) < n) := by omega
      go_wp2
      go_loopw [21] (fun v21 wr => ApRel n mn P E P2 E2 o l o l g x b w v21 wr) (fun v21 _ => mn - (intOf v21).toNat)
      case atStart => exact ⟨0, Nat.zero_le _, rfl, TA.out, TB.out, BX.out, hB⟩
      case round =>
        obtain ⟨k, hk, rfl, TA, TB, BX, hB⟩ := hrel
        replace TA := hide TA
        replace TB := hide TB
        replace BX := hide BX
        by_cases hlt : k < mn
        · go_wp2_with fail
          refine (own_zero n mn h1 hn HM.out _).mono ?_
          rintro r w6 ⟨rfl, rfl⟩
          go_wp2_with fail
          refine (word_in mn P E n k o l _ h1 hn HM.out ho1.out (by omega) rfl _ TA.out).mono ?_
          rintro r w6 ⟨rfl, hb6⟩
          have q6 := hide (below_step hB hB.size hb6)
          go_wp2_with fail
          refine (word_in mn P2 E2 n k o l _ h1 hn HM.out ho.out (by omega) rfl _ (TB.out.next hb6)).mono ?_
          rintro r w7 ⟨rfl, hb7⟩
          have q7 := hide (below_step q6.out q6.out.size hb7)
          have TA7 := hide ((TA.out.next hb6).next hb7)
          have TB7 := hide ((TB.out.next hb6).next hb7)
          have BX7 := hide ((BX.out.next hb6).next hb7)
          have c0 : w7.cell? ⟨w.heap.size, 0, none⟩ = some (.int .i64 g) := BX7.out.2 0 (by omega)
          go_wp2
          go_roundw
          case rel => exact ⟨k + 1, by omega, int_eq (by omega), TA7.out, TB7.out, BX7.out, q7.out⟩
          case measure => simp [intOf]; omega
        · obtain rfl : k = mn := by omega
          go_wp2_with fail
          refine (own_zero n k h1 hn HM.out _).mono ?_
          rintro r w6 ⟨rfl, rfl⟩
          go_wp2_with fail
          refine (awake_ok _).mono ?_
          rintro r w7 ⟨rfl, hb7⟩
          go_wp2
          go_ret
          exact ⟨rfl, below_step hB hB.size hb7⟩
end Go.Proofs.Ytdpdofdfdjcpoaa
