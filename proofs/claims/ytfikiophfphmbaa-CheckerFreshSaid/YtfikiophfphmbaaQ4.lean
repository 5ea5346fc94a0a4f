/- DeleteFunc where one matches. -/
import Derived.Test.YtfikiophfphmbaaQ3
import Derived.WalkKit
import Derived.WalkSpells
import Derived.ProofKit
import Derived.Outline
import Derived.Handy
import Derived.RowKit3
import Derived.BigQuiet
import Derived.Deep.QuietTactic
import Derived.Deep.RegionHeld3
import Derived.Deep.Draws
import Derived.Deep.RegionLaw
import Derived.RegionTactic
import Derived.BigRegion
import Derived.IntWalk
import Derived.LoopTactic
import Derived.OwnWalk
import Derived.Laws.AppendOwn
import Derived.Laws.OwnMore
import Derived.Laws.MakeOwn
import Derived.Laws.Pointers
import Derived.Maps.AppendAt
import Derived.Deep.AppendLies
import Derived.Below
import Derived.Laws.EntriesVeiled
namespace Go.Proofs.Ytfikiophfphmbaa
open Go.RowKit
set_option linter.unusedVariables false
set_option maxRecDepth 100000

theorem kcells_take (L : List (Int × Int)) (k : Nat) : (kcells L).take (k * 2) = kcells (L.take k) := by
  induction L generalizing k with
  | nil => simp [kcells]
  | cons y L ih =>
    cases k with
    | zero => simp [kcells]
    | succ k =>
      show ([Value.int .i64 y.1, .int .i64 y.2] ++ kcells L).take ((k + 1) * 2) = [Value.int .i64 y.1, .int .i64 y.2] ++ kcells (L.take k)
      rw [← ih k, show (k + 1) * 2 = k * 2 + 1 + 1 by omega]
      simp
def DRel (ks : List (Int × Int)) (i g0 cp : Nat) (w : World) (v5 v6 : Value) (wr : World) : Prop := ∃ (p q : Nat) (L : List (Int × Int)), i ≤ p ∧ q = p + 1 ∧ q ≤ ks.length ∧ v5 = .int .i64 p ∧ v6 = .int .i64 q ∧ Mv ks L i p ∧ wr.ownsRow 0 74 2 (.slice (some ⟨g0, 0, none⟩) ks.length cp) ks.length (kcells L) ∧ Fr (fun k => k = g0) w wr
section
variable {P en gs : Nat} {ws st : Bool} {gr at_ : Int} {v : Value} {ks : List (Int × Int)}
set_option maxHeartbeats 4000000 in
theorem del_yes (b o : Int) (i : Nat) (B X : Nat) (g0 cp : Nat) (hb : b ≠ -1) (hi : ks[i]? = some (b, o)) (hno : ∀ j x, j < i → ks[j]? = some x → x.1 ≠ b) (hno2 : ∀ j x, i < j → ks[j]? = some x → x.1 ≠ b) (w : World) (h : Ck w P ws st gr at_ en gs (.slice (some ⟨g0, 0, none⟩) ks.length cp) ks) (hcp : ks.length ≤ cp) (hBl : B < w.heap.size) (hXl : X < w.heap.size) (hBg : B ≠ g0) (hXg : X ≠ g0) (hgl : g0 < w.heap.size) (hB : w.cell? ⟨B, 0, none⟩ = some (.int .i64 b)) (hX : w.cell? ⟨X, 0, none⟩ = some (.func (.func 29) #[] #[.pointer (some ⟨B, 0, none⟩)])) : Calls Try.prog 30 #[.slice (some ⟨g0, 0, none⟩) ks.length cp, .func (.func 31) #[] #[.pointer (some ⟨X, 0, none⟩)]] w fun r w' => r = .returned (.slice (some ⟨g0, 0, none⟩) (ks.length - 1) cp) ∧ w'.ownsRow 0 74 2 (.slice (some ⟨g0, 0, none⟩) (ks.length - 1) cp) (ks.length - 1) (kcells (ks.eraseIdx i)) ∧ Fr (fun k => k = g0) w w' := by
  have hD := idx_yes b o i B X hb hi hno w h hBl hXl hB hX
  have HD := hide hD
  have HO := hide h.own
  have HN2 := hide hno2
  have hil : i < ks.length := (List.getElem?_eq_some_iff.1 hi).1
  have hin : ((i : Int) == -1) = false := by simp
  have he := h.e8
  have hle := h.le
  have HB := hide hB
  have HX := hide hX
  clear hD h hno hno2 hi hB hX
  go_enter Try.func30, Try.ntmps30
  go_wp2_with fail
  refine HD.out.mono ?_
  rintro r1 w1 ⟨rfl, hb1⟩
  have F1 := hide (Fr.of_below (S := fun k => k = g0) hb1)
  have O1 := hide (ownsRow_fr HO.out (Fr.of_below (S := fun _ => False) hb1) (fun _ _ e => e))
  clear hb1
  go_wp2
  go_loopw [5, 6] (fun v5 v6 wr => DRel ks i g0 cp w v5 v6 wr) (fun _ v6 _ => ks.length - (intOf v6).toNat)
  case atStart => exact ⟨i, i + 1, ks, Nat.le_refl _, rfl, by omega, rfl, int_eq (by omega), ⟨rfl, fun t ht => by rw [if_neg (by omega)]⟩, O1.out, F1.out⟩
  case round =>
    obtain ⟨p, q, L, hip, hq, hqn, rfl, rfl, hM, hR, hF⟩ := hrel
    have HM := hide hM
    have HR := hide hR
    have HF := hide hF
    have HQ := hide hq
    have hpq : p < q := by omega
    have hs := hF.size
    by_cases hlt : q < ks.length
    · obtain ⟨x, hx⟩ : ∃ x, ks[q]? = some x := ⟨ks[q], List.getElem?_eq_getElem hlt⟩
      have hLx : L[q]? = some x := by rw [hM.2 q hlt, if_neg (by omega), hx]
      obtain ⟨e0, e1⟩ := kcells_get L q x hLx
      have z0 := (hR.cellAt (q * 2) (by omega)).trans e0
      have z1 := (hR.cellAt (q * 2 + 1) (by omega)).trans e1
      have hn2 := hide (beq_eq_false_iff_ne.2 (HN2.out q x (by omega) hx))
      have q0 := hide ((hF.cell hBl hBg).trans HB.out)
      have q1 := hide ((hF.cell hXl hXg).trans HX.out)
      have hX2 := hide hx
      clear hx hLx e0 e1 hM hR hF hq
      go_wp2_with fail
      refine (meant2_is b x.1 x.2 B X false hb hn2.out _ (by simp; omega) (by simp; omega) ((World.cell?_alloc_lt wr _ ⟨B, 0, none⟩ (Nat.lt_of_lt_of_le hBl hs)).trans q0.out) ((World.cell?_alloc_lt wr _ ⟨X, 0, none⟩ (Nat.lt_of_lt_of_le hXl hs)).trans q1.out)).mono ?_
      rintro r1 w2 ⟨rfl, hb2⟩
      have y0 : w2.cell? ⟨wr.heap.size, 0, none⟩ = some (.int .i64 x.1) := (hb2.cell (p := ⟨wr.heap.size, 0, none⟩) (by simp)).trans (World.cell?_alloc_new wr _ 74 0)
      have y1 : w2.cell? ⟨wr.heap.size, 1, none⟩ = some (.int .i64 x.2) := (hb2.cell (p := ⟨wr.heap.size, 1, none⟩) (by simp)).trans (World.cell?_alloc_new wr _ 74 1)
      have R2 := ownsRow_fr HR.out (Fr.of_below (S := fun _ => False) (below_alloc hb2)) (fun _ _ e => e)
      have l2 : (kcells L).length = ks.length * 2 := R2.1
      have t0 := (R2.cellAt (p * 2) (by omega)).trans (List.getElem?_eq_getElem (by omega))
      have t1 := (R2.cellAt (p * 2 + 1) (by omega)).trans (List.getElem?_eq_getElem (by omega))
      have t2 := R2.frozenAt (p * 2)
      have t3 := R2.frozenAt (p * 2 + 1)
      have hpn : p < ks.length := by omega
      have HR2 := hide R2
      have HF2 := hide ((HF.out.alloc (.cells #[.int .i64 x.1, .int .i64 x.2] 74)).trans (Fr.of_below (S := fun k => k = g0) hb2) (fun _ _ e => e))
      clear R2 hb2
      go_wp2
      go_roundw
      case rel => exact ⟨p + 1, q + 1, L.set p x, by omega, by have := HQ.out; omega, by omega, int_eq (by omega), int_eq (by omega), HM.out.step hip (by rw [← HQ.out]; exact hX2.out), by rw [kcells_set]; exact ((HR2.out.stored (p * 2) (.int .i64 x.1)).1.stored (p * 2 + 1) (.int .i64 x.2)).1, (HF2.out.setCell (p := ⟨g0, p * 2, none⟩) (fun _ => rfl) _).setCell (p := ⟨g0, p * 2 + 1, none⟩) (fun _ => rfl) _⟩
      case measure => simp [intOf]; omega
    · have hqe : q = ks.length := by omega
      have hp0 : (0 : Int) ≤ p := by omega
      have hpn : (p : Int) ≤ ks.length := by omega
      have hp1 : ks.length - p = 1 := by omega
      have hpe : p = ks.length - 1 := by omega
      have HP := hide hpe
      have l2 : (kcells L).length = ks.length * 2 := hR.1
      have hclr := fun ty => run_clear_one wr ty g0 (p * 2) (cp - p) (fun j hj => by rw [hR.cellAt (p * 2 + j) (by omega), List.getElem?_eq_getElem (by omega)]; rfl) (fun j hj => hR.frozenAt _)
      have HC := hide hclr
      obtain ⟨hr2, hf2⟩ := row_put [.int .i64 0, .int .i64 0] wr (p * 2) _ hR (by rw [l2]; simp only [List.length_cons, List.length_nil]; omega)
      have hr3 := row_short hr2 (m := p) (by omega)
      rw [List.append_assoc, List.take_left' (by rw [List.length_take, l2]; omega), kcells_take] at hr3
      have hd := hM
      rw [hpe] at hd
      rw [show L.take p = ks.eraseIdx i by rw [hpe]; exact hd.done hil] at hr3
      have HR3 := hide hr3
      have HF3 := hide (hF.trans hf2 (fun _ _ e => e))
      have hp2 := hide hp1
      clear hM hR hF hq hclr hr2 hf2 hr3 hd hpe hp1
      go_wp2_with fail
      rw [hp2.out, HC.out]
      go_wp2
      go_ret
      rw [← HP.out]
      exact ⟨rfl, HR3.out, HF3.out⟩
end
end Go.Proofs.Ytfikiophfphmbaa
