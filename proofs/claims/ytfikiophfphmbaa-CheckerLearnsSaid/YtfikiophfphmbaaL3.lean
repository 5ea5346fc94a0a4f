/- A walk by the words of a table that does not turn is over by two words, and its granule is known then: for every pair of numbers, every calls and every entries the law CheckerLearns returns true, and its arguments read as they did. No condition. -/
import Derived.Test.YtfikiophfphmbaaZ6
import Derived.Carry
import Derived.OpenShut
namespace Go.Proofs.Ytfikiophfphmbaa.checkerLearns
open Go.ChangeShapes Go.WideShapes Go.ChangeAt Go.RowKit
set_option linter.unusedVariables false
theorem learns_law (a b : Int) (av : Option Addr) (L c : Nat) (hL : L ≤ maxLen) (A B C D : Nat → Int) (ev : Option Addr) (Le ec : Nat) (hLe : Le ≤ maxLen) (X : Nat → Int) (F : Nat → Bool) (w : World) (hl : OpsIn w av L A B C D) (he : EntIn w ev Le X F) : Calls Try.prog 4 #[.agg #[.int .i64 a, .int .i64 b], .slice av L c, .slice ev Le ec] w fun r w' => r = .returned (.bool true) ∧ Below w.heap.size w w' := by
  by_cases h : (1 ≤ a ∧ a ≤ 8 ∧ 1 ≤ b ∧ b ≤ 16) ∧ L ≤ 80
  · obtain ⟨⟨h1, h2, h3, h4⟩, h5⟩ := h
    obtain ⟨en, rfl⟩ : ∃ n : Nat, a = n := ⟨a.toNat, by omega⟩
    obtain ⟨gs, rfl⟩ : ∃ n : Nat, b = n := ⟨b.toNat, by omega⟩
    exact learns_in en gs (by omega) (by omega) (by omega) (by omega) av ev L c Le ec h5 hLe A B C D X F w hl he
  · exact learns_out a b av ev L c Le ec h w
theorem own : ownKnob Try.prog.godebug = none := by kernel_rfl
theorem laidOut : laidOutB Try.prog = true := by kernel_rfl
set_option maxRecDepth 100000 in
theorem lifted (os : Os) (started : os.Started) (H : Type) (enc : TypeId × Value → H) :
    ReturnsInHanded {} Try.checked os 4 .any (Rows.checkerLearnsSpec.pre6 enc Try.prog Try.f4 Rows.checkerLearnsRow.domain false) (Rows.checkerLearnsSpec.post enc Try.prog Try.f4 false true false false) := by
  refine returnsInHanded_of_change (C := Try.checked) own started (by kernel_rfl) Try.func4
    (ChangeSpec.witness6 (enc := enc) (C := Try.checked) false ⟨#[], #[.agg #[.int .i64 0, .int .i64 0], .slice none 0 0, .slice none 0 0], []⟩ 8 (by kernel_rfl) (by kernel_rfl) (by kernel_rfl) (by kernel_rfl)) ?_
  intro W base args ds gs before hval0 hW hcnd _
  have hval : ∀ (j : Nat) t v, Try.f4.params[j]? = some t → args[j]? = some v → Value.okWide Try.prog W .any base t v := hval0
  have hW' := hW
  obtain ⟨p, q, hA0, hV, rfl, hfz, hnd⟩ := hW
  have hA : DataW.TrodAll enc Try.prog W 0 (fun _ => true) true Try.f4.params.toList args.toList ds p := hA0
  rw [Try.params4] at hA hval
  obtain ⟨v0, vs0, d0, ds0, p0, q0, hargs, rfl, rfl, h0, r0⟩ := trodAll_cons hA
  obtain ⟨v1, vs1, d1, ds1, p1, q1, rfl, rfl, rfl, h1, r1⟩ := trodAll_cons r0
  obtain ⟨v2, vs2, d2, ds2, p2, q2, rfl, rfl, rfl, h2, r2⟩ := trodAll_cons r1
  obtain ⟨rfl, rfl, rfl⟩ := trodAll_nil r2
  obtain rfl : args = #[v0, v1, v2] := by cases args; simp_all
  obtain ⟨rfl, rfl⟩ := trodVars_none hV
  have k0 := h0
  have lt0 : ∀ x ∈ p0, x.block < W.heap.size := by obtain ⟨m, hm⟩ := k0; exact DataW.trod_lt m _ _ _ hm
  have k1 := h1
  have lt1 : ∀ x ∈ p1, x.block < W.heap.size := by obtain ⟨m, hm⟩ := k1; exact DataW.trod_lt m _ _ _ hm
  have k2 := h2
  have lt2 : ∀ x ∈ p2, x.block < W.heap.size := by obtain ⟨m, hm⟩ := k2; exact DataW.trod_lt m _ _ _ hm
  obtain ⟨oa, ob, rfl⟩ := pair_of (hval 0 22 v0 rfl rfl) h0
  obtain ⟨av, L, c, rfl, hL, oA, oB, oC, oD, hl⟩ := ops_of (hval 1 51 v1 rfl rfl) h1
  obtain ⟨ev, Le, ec, rfl, hLe, oX, oF, he⟩ := ents_of (hval 2 52 v2 rfl rfl) h2
  clear hA0 hval0
  refine (learns_law oa ob av L c hL oA oB oC oD ev Le ec hLe oX oF W hl he).mono fun e W' ⟨he, bel⟩ => ?_
  subst he
  exact ⟨_, rfl, _, _, _, [], _, [], hW', trodAll_mk1 (shut_bool Try.underlying4 _), (trodAll_cons_mk (Below.trod laidOut (by kernel_rfl) (of_decide_eq_true (by kernel_rfl)) k0 bel lt0) (trodAll_cons_mk (Below.trod laidOut (by kernel_rfl) (of_decide_eq_true (by kernel_rfl)) k1 bel lt1) (trodAll_cons_mk (Below.trod laidOut (by kernel_rfl) (of_decide_eq_true (by kernel_rfl)) k2 bel lt2) trodAll_mk0))), rfl, bel.frame _, fun h => by cases h⟩
theorem over : Rows.checkerLearnsRow.holds Try.pinned (OpenSpec.ofChange Rows.checkerLearnsSpec) :=
  OpenClaim.holds_of_wide 4 Try.f4 rfl rfl rfl rfl rfl rfl rfl ⟨rfl, rfl, rfl, rfl, rfl⟩ rfl rfl rfl rfl rfl (by kernel_rfl) Try.func4 (by kernel_rfl)
    (of_decide_eq_true (by kernel_rfl)) (by unfold Func.isWrapper; first | (rw [if_pos (by decide +kernel)]; kernel_rfl) | (rw [if_neg (by decide +kernel)]; exact ⟨rfl, rfl⟩))
    (fun os started H enc _ => lifted os started H enc)
theorem proved : Rows.CheckerLearnsSaid := over
#print axioms proved
end Go.Proofs.Ytfikiophfphmbaa.checkerLearns
