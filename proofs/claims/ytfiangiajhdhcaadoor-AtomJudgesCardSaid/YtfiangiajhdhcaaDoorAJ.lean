/- What each call of the monitor answers: for every four numbers the law AtomJudges returns true. The table of package isa is tied to the program's text by the card. No condition. -/
import Derived.Test.YtfiangiajhdhcaaDoorCards
import Derived.Test.YtfiangiajhdhcaaDoorTie
import Derived.Test.YtfiangiajhdhcaaDoorY
import Derived.WalkKit
import Derived.ProofKit
import Derived.OpenShut
import Derived.Carry
import Derived.Deep.DeepHandedRow
import Derived.Lib.LaidTab
import Derived.KernelRfl
namespace Go.Proofs.YtfiangiajhdhcaaDoor.atomJudgesCard
open Go.ChangeShapes Go.WideShapes Go.ChangeAt Go.RowKit
set_option linter.unusedVariables false
set_option maxRecDepth 100000
def tree0 : Tree := (.node .lss (.at 1) (.lit 0) .leaf (.node .gtr (.at 1) (.lit 3) .leaf (.node .lss (.at 2) (.lit 0) .leaf (.node .gtr (.at 2) (.lit 4) .leaf (.node .eql (.at 0) (.lit 1) (.node .neq (.at 1) (.lit 0) (.node .geq (.at 3) (.lit 1) (.node .leq (.at 3) (.lit 3) .leaf .leaf) .leaf) (.node .neq (.at 2) (.lit 0) (.node .geq (.at 3) (.lit 1) (.node .leq (.at 3) (.lit 3) .leaf .leaf) .leaf) (.node .neq (.at 3) (.lit 0) (.node .lss (.at 3) (.lit 0) .leaf (.node .gtr (.at 3) (.lit 3) .leaf .leaf)) .leaf))) (.node .eql (.at 0) (.lit 2) (.node .eql (.at 2) (.lit 0) (.node .geq (.at 3) (.lit 1) (.node .leq (.at 3) (.lit 3) .leaf .leaf) .leaf) (.node .neq (.at 1) (.lit 0) (.node .neq (.at 1) (.at 2) (.node .geq (.at 3) (.lit 1) (.node .leq (.at 3) (.lit 3) .leaf .leaf) .leaf) (.node .geq (.at 3) (.lit 1) (.node .leq (.at 3) (.lit 3) .leaf .leaf) .leaf)) (.node .geq (.at 3) (.lit 1) (.node .leq (.at 3) (.lit 3) .leaf .leaf) .leaf))) (.node .eql (.at 0) (.lit 3) (.node .eql (.at 1) (.lit 0) (.node .geq (.at 3) (.lit 1) (.node .leq (.at 3) (.lit 3) .leaf .leaf) .leaf) (.node .neq (.at 1) (.at 2) (.node .geq (.at 3) (.lit 1) (.node .leq (.at 3) (.lit 3) .leaf .leaf) .leaf) (.node .neq (.at 3) (.lit 0) (.node .lss (.at 3) (.lit 0) .leaf (.node .gtr (.at 3) (.lit 3) .leaf (.node .eql (.at 3) (.at 2) .leaf .leaf))) .leaf))) (.node .eql (.at 0) (.lit 4) (.node .eql (.at 2) (.lit 4) (.node .geq (.at 3) (.lit 1) (.node .leq (.at 3) (.lit 3) .leaf .leaf) .leaf) (.node .neq (.at 1) (.at 2) (.node .geq (.at 3) (.lit 1) (.node .leq (.at 3) (.lit 3) .leaf .leaf) .leaf) (.node .geq (.at 3) (.lit 1) (.node .leq (.at 3) (.lit 3) .leaf .leaf) .leaf))) (.node .geq (.at 3) (.lit 1) (.node .leq (.at 3) (.lit 3) .leaf .leaf) .leaf)))))))))
theorem way0 (i0 i1 i2 i3 : Int) (hr : ∀ x ∈ ([i0, i1, i2, i3] : List Int), (Lit.int .i64 x).wf = true) (W : World) (hT : TabsIn (valOf [i0, i1, i2, i3]) 9 ts0 W) : Calls Tryd.prog 5 #[.agg #[.int .i64 i0, .int .i64 i1], .int .i64 i2, .int .i64 i3] W fun e W' => e = .returned (.bool true) ∧ Below W.heap.size W W' :=
  law_ok (E := valOf [i0, i1, i2, i3]) (P := Tryd.prog) (G := 9) (B := Bk) (ts := ts0) (k := 3000) (args := [.agg [.int .i64 (.at 0), .int .i64 (.at 1)], .int .i64 (.at 2), .int .i64 (.at 3)]) (t := tree0) (A0 := rangeAsm 4) (by kernel_rfl) (rangeAsm_ok hr 4) (fun A _ => Bk_ok _ A) hT (by simp [DenL, Den, IE.den, valOf])
theorem law (i0 : Int) (i1 : Int) (i2 : Int) (i3 : Int) (hr : ∀ x ∈ ([i0, i1, i2, i3] : List Int), (Lit.int .i64 x).wf = true) (W : World) (hT : TabsIn (valOf [i0, i1, i2, i3]) 9 ts0 W) : Calls Tryd.prog 5 #[.agg #[.int .i64 i0, .int .i64 i1], .int .i64 i2, .int .i64 i3] W fun e W' => e = .returned (.bool true) ∧ Below W.heap.size W W' := by
  exact way0 i0 i1 i2 i3 hr W hT
theorem own : ownKnob Tryd.prog.godebug = none := by kernel_rfl
theorem laidOut : laidOutB Tryd.prog = true := by kernel_rfl
theorem contract (H : Type) (enc : TypeId × Value → H) (W : World) (base : Nat) (args : Array Value) (ds gs : List (DataW H)) (before : List MemPlace)
    (hval : ∀ (j : Nat) t v, Tryd.f5.params[j]? = some t → args[j]? = some v → Value.okWide Tryd.prog W .any base t v)
    (hW : DataW.Whole enc Tryd.prog Tryd.f5.params.toList Rows.atomJudgesSpec.vars false W args.toList ds gs before) (hL : laidMetH Tryd.prog Rows.atomJudgesRow.laid W) :
    Calls Tryd.prog 5 args W fun e W' => ∃ v, e = .returned v ∧ Rows.atomJudgesSpec.post enc Tryd.prog Tryd.f5 false true false false W args v W' := by
  have hW' := hW
  obtain ⟨p, q, hA0, hV, rfl, hfz, hnd⟩ := hW
  have hA : DataW.TrodAll enc Tryd.prog W 0 (fun _ => true) true Tryd.f5.params.toList args.toList ds p := hA0
  rw [Tryd.params5] at hA hval
  obtain ⟨v0, vs0, d0, ds0, p0, q0, hargs, rfl, rfl, h0, r0⟩ := trodAll_cons hA
  obtain ⟨v1, vs1, d1, ds1, p1, q1, rfl, rfl, rfl, h1, r1⟩ := trodAll_cons r0
  obtain ⟨v2, vs2, d2, ds2, p2, q2, rfl, rfl, rfl, h2, r2⟩ := trodAll_cons r1
  obtain ⟨rfl, rfl, rfl⟩ := trodAll_nil r2
  obtain rfl : args = #[v0, v1, v2] := by cases args; simp_all
  obtain ⟨rfl, rfl⟩ := trodVars_none hV
  have k0 := h0
  have lt0 : ∀ x ∈ p0, x.block < W.heap.size := by obtain ⟨m, hm⟩ := k0; exact DataW.trod_lt m _ _ _ hm
  have k1 := h1
  have lt1 : ∀ x ∈ p1, x.block < W.heap.size := by obtain ⟨m, hm⟩ := k1; exact DataW.trod_lt m _ _ _ hm
  have k2 := h2
  have lt2 : ∀ x ∈ p2, x.block < W.heap.size := by obtain ⟨m, hm⟩ := k2; exact DataW.trod_lt m _ _ _ hm
  obtain ⟨cs0, rfl, hc0⟩ := open_agg (n := 10) (ks := [.int .i64, .int .i64]) (show openT Tryd.prog 10 47 = _ by kernel_rfl) (by kernel_rfl) (hval 0 47 v0 rfl rfl) h0
  obtain ⟨_, _, ⟨i0, rfl, z0_0⟩, ⟨_, _, ⟨i1, rfl, z0_1⟩, rfl, rfl⟩, rfl⟩ := hc0
  obtain ⟨i2, rfl, z1⟩ : ∃ n, v1 = .int .i64 n ∧ (Lit.int .i64 n).wf = true := open_num Tryd.underlying3 (hval 1 3 v1 rfl rfl) h1
  obtain ⟨i3, rfl, z2⟩ : ∃ n, v2 = .int .i64 n ∧ (Lit.int .i64 n).wf = true := open_num Tryd.underlying3 (hval 2 3 v2 rfl rfl) h2
  have T : TabsIn (valOf [i0, i1, i2, i3]) 9 ts0 W := tabs_of (valOf [i0, i1, i2, i3]) hL
  clear hA0
  have hr : ∀ x ∈ ([i0, i1, i2, i3] : List Int), (Lit.int .i64 x).wf = true := by
    intro x hx
    simp only [List.mem_cons, List.not_mem_nil, or_false] at hx
    rcases hx with rfl | rfl | rfl | rfl
    · exact z0_0
    · exact z0_1
    · exact z1
    · exact z2
  refine (law i0 i1 i2 i3 hr W T).mono fun e W' ⟨he, bel⟩ => ?_
  subst he
  exact ⟨_, rfl, _, _, _, [], _, [], hW', trodAll_mk1 (shut_bool Tryd.underlying4 _), (trodAll_cons_mk (Below.trod laidOut (by kernel_rfl) (of_decide_eq_true (by kernel_rfl)) k0 bel lt0) (trodAll_cons_mk (Below.trod laidOut (by kernel_rfl) (of_decide_eq_true (by kernel_rfl)) k1 bel lt1) (trodAll_cons_mk (Below.trod laidOut (by kernel_rfl) (of_decide_eq_true (by kernel_rfl)) k2 bel lt2) trodAll_mk0))), rfl, bel.frame _, fun h => by cases h⟩
/-- A world for the witness: the settled one, the tables holding what their initialisers lay. -/
noncomputable def laidWorld (os : Os) : World :=
  { World.holding Tryd.prog os ⟨#[], #[], []⟩ with heap := (World.holding Tryd.prog os ⟨#[], #[], []⟩).heap.modify 0 fun
      | .cells _ t frozen => .cells #[.string ⟨#[]⟩, .int .i64 0, .int .i64 0, .int .i64 0, .string ⟨#[115, 101, 116]⟩, .int .i64 1, .int .i64 2, .int .i64 0, .string ⟨#[97, 100, 100]⟩, .int .i64 1, .int .i64 1, .int .i64 1, .string ⟨#[108, 111, 97, 100]⟩, .int .i64 1, .int .i64 1, .int .i64 0, .string ⟨#[115, 116, 111, 114, 101]⟩, .int .i64 1, .int .i64 1, .int .i64 0, .string ⟨#[115, 119, 97, 112]⟩, .int .i64 1, .int .i64 1, .int .i64 0, .string ⟨#[102, 101, 110, 99, 101]⟩, .int .i64 0, .int .i64 0, .int .i64 0, .string ⟨#[119, 111, 114, 108, 100]⟩, .int .i64 3, .int .i64 0, .int .i64 0, .string ⟨#[99, 97, 108, 108]⟩, .int .i64 4, .int .i64 1, .int .i64 1, .string ⟨#[106, 117, 109, 112]⟩, .int .i64 5, .int .i64 0, .int .i64 0, .string ⟨#[122, 101, 114, 111]⟩, .int .i64 1, .int .i64 5, .int .i64 0, .string ⟨#[104, 97, 108, 116]⟩, .int .i64 0, .int .i64 0, .int .i64 0] t frozen
      | o => o }
theorem laid_met (os : Os) : laidMet Tryd.prog Rows.atomJudgesRow.laid ((laidWorld os).forCall (fun _ _ => 0) ⟨#[], #[.agg #[.int .i64 0, .int .i64 0], .int .i64 0, .int .i64 0], []⟩).memory :=
  laidMet_of_run' 8 (by kernel_rfl) (by kernel_rfl)
theorem reads (os : Os) {H : Type} (enc : TypeId × Value → H) : ∃ places, DataW.whole enc Tryd.prog ((laidWorld os).forCall (fun _ _ => 0) ⟨#[], #[.agg #[.int .i64 0, .int .i64 0], .int .i64 0, .int .i64 0], []⟩).memory Tryd.f5.params.toList Rows.atomJudgesSpec.vars false (#[.agg #[.int .i64 0, .int .i64 0], .int .i64 0, .int .i64 0] : Array Value).toList 8 = some ([.agg [.lit (.int .i64 0), .lit (.int .i64 0)], .lit (.int .i64 0), .lit (.int .i64 0)], [], places) :=
  ⟨[], by kernel_rfl⟩
set_option maxRecDepth 100000 in
theorem lifted (os : Os) (started : os.Started) (H : Type) (enc : TypeId × Value → H) (F : Stop.Interp) :
    ReturnsInHanded {} Tryd.checked os 5 .any ((OpenSpec.ofChange Rows.atomJudgesSpec).preRow enc Tryd.prog Tryd.f5 Rows.atomJudgesRow.domain false Rows.atomJudgesRow.laid) (((OpenSpec.ofChange Rows.atomJudgesSpec).at F).post enc Tryd.prog Tryd.f5 false true false false) := by
  obtain ⟨places, hx⟩ := reads os enc
  refine returnsInHanded_of_row (C := Tryd.checked) (s := OpenSpec.ofChange Rows.atomJudgesSpec) own started (by kernel_rfl) Tryd.func5
    (witness_row_at (enc := enc) (C := Tryd.checked) false (laidWorld os) #[.agg #[.int .i64 0, .int .i64 0], .int .i64 0, .int .i64 0] rfl (by kernel_rfl) (by kernel_rfl) (by kernel_rfl)
      (OpenSpec.preRow_of_cond 8 hx (by kernel_rfl) (fun k hk => by cases hk) (by kernel_rfl) (laid_met os))) ?_
  intro W base args ds gs before hval hW _ _ _ hL _ _
  exact contract H enc W base args ds gs before hval hW hL
theorem said : Rows.AtomJudgesSaid :=
  OpenClaim.holds_of_cond 5 Tryd.f5 rfl rfl rfl rfl rfl rfl rfl ⟨rfl, rfl, rfl, rfl, rfl⟩ rfl rfl rfl rfl rfl (by kernel_rfl) Tryd.func5 (by kernel_rfl)
    (of_decide_eq_true (by kernel_rfl)) (by unfold Func.isWrapper; first | (rw [if_pos (by decide +kernel)]; kernel_rfl) | (rw [if_neg (by decide +kernel)]; exact ⟨rfl, rfl⟩))
    (fun os started H enc _ F => by rw [OpenClaim.pre_eq_preRow]; exact lifted os started H enc F)
/-- No parameter wants a stand-in; the program's own looks are off. -/
theorem plain (f : FuncId) (fn : Func) (hf : Tryd.pinned.checked.prog.funcNamed "donjon/donjonlaw11.AtomJudges" = some f) (hfn : Tryd.pinned.checked.prog.funcs[f]? = some fn) :
    true = Tryd.pinned.checked.prog.looks [] ∧ ∀ (j : Nat) t, fn.params[j]? = some t → Tryd.pinned.checked.prog.wantsStandIn t = false := by
  obtain rfl : f = 5 := Option.some.inj ((show Tryd.prog.funcNamed "donjon/donjonlaw11.AtomJudges" = some 5 by kernel_rfl).symm.trans hf) |>.symm
  obtain rfl : fn = Tryd.f5 := (Option.some.inj (Tryd.func5.symm.trans hfn)).symm
  refine ⟨by kernel_rfl, fun j t ht => ?_⟩
  rw [Tryd.params5] at ht
  have hm := Array.mem_of_getElem? ht
  have all : (#[47, 3, 3] : Array Nat).all (fun t => !Tryd.pinned.checked.prog.wantsStandIn t) = true := by kernel_rfl
  have := Array.all_eq_true_iff_forall_mem.1 all t hm
  simpa using this
theorem card : Rows.AtomJudgesCardSaid :=
  Claim7.holds_tied_plain_at .later [] _ _ _ _ said (fun _ h => by cases h) (by kernel_rfl) (fun _ h => by cases h) atomJudges_row_tie rfl ⟨rfl, rfl⟩ (by kernel_rfl) rfl plain (by kernel_rfl)
#print axioms card
end Go.Proofs.YtfiangiajhdhcaaDoor.atomJudgesCard
