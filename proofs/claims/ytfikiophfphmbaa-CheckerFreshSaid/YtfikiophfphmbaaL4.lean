/- What a checker knows is what the table tells while each granule whose entry is turned is dropped, and it never knows too many, nor one twice, nor a locked one: for every pair of numbers and every turns the law CheckerFresh returns true, and its arguments read as they did. No condition. -/
import Derived.Test.YtfikiophfphmbaaR9
import Derived.Carry
import Derived.OpenShut
namespace Go.Proofs.Ytfikiophfphmbaa.checkerFresh
open Go.ChangeShapes Go.WideShapes Go.ChangeAt Go.RowKit
set_option linter.unusedVariables false
theorem fresh_law (a b : Int) (av : Option Addr) (L c : Nat) (hL : L ≤ maxLen) (D G X : Nat → Int) (B : Nat → Bool) (w : World) (hl : TurnIn w av L D G X B) : Calls Try.prog 3 #[.agg #[.int .i64 a, .int .i64 b], .slice av L c] w fun r w' => r = .returned (.bool true) ∧ Below w.heap.size w w' := by
  by_cases h : (1 ≤ a ∧ a ≤ 8 ∧ 1 ≤ b ∧ b ≤ 16) ∧ L ≤ 80
  · obtain ⟨⟨h1, h2, h3, h4⟩, h5⟩ := h
    obtain ⟨en, rfl⟩ : ∃ n : Nat, a = n := ⟨a.toNat, by omega⟩
    obtain ⟨gs, rfl⟩ : ∃ n : Nat, b = n := ⟨b.toNat, by omega⟩
    exact fresh_in en gs (by omega) (by omega) (by omega) (by omega) av L c h5 D G X B w hl
  · exact fresh_out a b av L c hL h w
theorem own : ownKnob Try.prog.godebug = none := by kernel_rfl
theorem laidOut : laidOutB Try.prog = true := by kernel_rfl
set_option maxRecDepth 100000 in
theorem lifted (os : Os) (started : os.Started) (H : Type) (enc : TypeId × Value → H) :
    ReturnsInHanded {} Try.checked os 3 .any (Rows.checkerFreshSpec.pre6 enc Try.prog Try.f3 Rows.checkerFreshRow.domain false) (Rows.checkerFreshSpec.post enc Try.prog Try.f3 false true false false) := by
  refine returnsInHanded_of_change (C := Try.checked) own started (by kernel_rfl) Try.func3
    (ChangeSpec.witness6 (enc := enc) (C := Try.checked) false ⟨#[], #[.agg #[.int .i64 0, .int .i64 0], .slice none 0 0], []⟩ 8 (by kernel_rfl) (by kernel_rfl) (by kernel_rfl) (by kernel_rfl)) ?_
  intro W base args ds gs before hval0 hW hcnd _
  have hval : ∀ (j : Nat) t v, Try.f3.params[j]? = some t → args[j]? = some v → Value.okWide Try.prog W .any base t v := hval0
  have hW' := hW
  obtain ⟨p, q, hA0, hV, rfl, hfz, hnd⟩ := hW
  have hA : DataW.TrodAll enc Try.prog W 0 (fun _ => true) true Try.f3.params.toList args.toList ds p := hA0
  rw [Try.params3] at hA hval
  obtain ⟨v0, vs0, d0, ds0, p0, q0, hargs, rfl, rfl, h0, r0⟩ := trodAll_cons hA
  obtain ⟨v1, vs1, d1, ds1, p1, q1, rfl, rfl, rfl, h1, r1⟩ := trodAll_cons r0
  obtain ⟨rfl, rfl, rfl⟩ := trodAll_nil r1
  obtain rfl : args = #[v0, v1] := by cases args; simp_all
  obtain ⟨rfl, rfl⟩ := trodVars_none hV
  have k0 := h0
  have lt0 : ∀ x ∈ p0, x.block < W.heap.size := by obtain ⟨m, hm⟩ := k0; exact DataW.trod_lt m _ _ _ hm
  have k1 := h1
  have lt1 : ∀ x ∈ p1, x.block < W.heap.size := by obtain ⟨m, hm⟩ := k1; exact DataW.trod_lt m _ _ _ hm
  obtain ⟨oa, ob, rfl⟩ := pair_of (hval 0 22 v0 rfl rfl) h0
  obtain ⟨av, L, c, rfl, hL, oD, oG, oX, oB, hl⟩ := turns_of (hval 1 23 v1 rfl rfl) h1
  clear hA0 hval0
  refine (fresh_law oa ob av L c hL oD oG oX oB W hl).mono fun e W' ⟨he, bel⟩ => ?_
  subst he
  exact ⟨_, rfl, _, _, _, [], _, [], hW', trodAll_mk1 (shut_bool Try.underlying4 _), (trodAll_cons_mk (Below.trod laidOut (by kernel_rfl) (of_decide_eq_true (by kernel_rfl)) k0 bel lt0) (trodAll_cons_mk (Below.trod laidOut (by kernel_rfl) (of_decide_eq_true (by kernel_rfl)) k1 bel lt1) trodAll_mk0)), rfl, bel.frame _, fun h => by cases h⟩
theorem over : Rows.checkerFreshRow.holds Try.pinned (OpenSpec.ofChange Rows.checkerFreshSpec) :=
  OpenClaim.holds_of_wide 3 Try.f3 rfl rfl rfl rfl rfl rfl rfl ⟨rfl, rfl, rfl, rfl, rfl⟩ rfl rfl rfl rfl rfl (by kernel_rfl) Try.func3 (by kernel_rfl)
    (of_decide_eq_true (by kernel_rfl)) (by unfold Func.isWrapper; first | (rw [if_pos (by decide +kernel)]; kernel_rfl) | (rw [if_neg (by decide +kernel)]; exact ⟨rfl, rfl⟩))
    (fun os started H enc _ => lifted os started H enc)
theorem proved : Rows.CheckerFreshSaid := over
#print axioms proved
end Go.Proofs.Ytfikiophfphmbaa.checkerFresh
