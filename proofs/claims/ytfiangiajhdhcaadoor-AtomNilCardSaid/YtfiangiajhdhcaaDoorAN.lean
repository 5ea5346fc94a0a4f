/- A nil machine has nothing: for every core and number the law AtomNil returns true. The table of package isa is tied to the program's text by the card. No condition. -/
import Derived.Test.YtfiangiajhdhcaaDoorCards
import Derived.Test.YtfiangiajhdhcaaDoorTie
import Derived.Test.YtfiangiajhdhcaaDoorY
import Derived.WalkKit
import Derived.ProofKit
import Derived.OpenShut
import Derived.Carry
import Derived.Deep.DeepHandedRow
import Derived.Lib.LaidTab
import Derived.KernelRfl
namespace Go.Proofs.YtfiangiajhdhcaaDoor.atomNilCard
open Go.ChangeShapes Go.WideShapes Go.ChangeAt Go.RowKit
set_option linter.unusedVariables false
set_option maxRecDepth 100000
def tree0 : Tree := .leaf
theorem way0 (i0 i1 : Int) (hr : ∀ x ∈ ([i0, i1] : List Int), (Lit.int .i64 x).wf = true) (W : World) (hT : TabsIn (valOf [i0, i1]) 9 ts0 W) : Calls Tryd.prog 9 #[.agg #[.int .i64 i0, .bool false], .int .i64 i1] W fun e W' => e = .returned (.bool true) ∧ Below W.heap.size W W' :=
  law_ok (E := valOf [i0, i1]) (P := Tryd.prog) (G := 9) (B := Bk) (ts := ts0) (k := 3000) (args := [.agg [.int .i64 (.at 0), .bool false], .int .i64 (.at 1)]) (t := tree0) (A0 := rangeAsm 2) (by kernel_rfl) (rangeAsm_ok hr 2) (fun A _ => Bk_ok _ A) hT (by simp [DenL, Den, IE.den, valOf])
def tree1 : Tree := .leaf
theorem way1 (i0 i1 : Int) (hr : ∀ x ∈ ([i0, i1] : List Int), (Lit.int .i64 x).wf = true) (W : World) (hT : TabsIn (valOf [i0, i1]) 9 ts0 W) : Calls Tryd.prog 9 #[.agg #[.int .i64 i0, .bool true], .int .i64 i1] W fun e W' => e = .returned (.bool true) ∧ Below W.heap.size W W' :=
  law_ok (E := valOf [i0, i1]) (P := Tryd.prog) (G := 9) (B := Bk) (ts := ts0) (k := 3000) (args := [.agg [.int .i64 (.at 0), .bool true], .int .i64 (.at 1)]) (t := tree1) (A0 := rangeAsm 2) (by kernel_rfl) (rangeAsm_ok hr 2) (fun A _ => Bk_ok _ A) hT (by simp [DenL, Den, IE.den, valOf])
theorem law (i0 : Int) (i1 : Int) (b0 : Bool) (hr : ∀ x ∈ ([i0, i1] : List Int), (Lit.int .i64 x).wf = true) (W : World) (hT : TabsIn (valOf [i0, i1]) 9 ts0 W) : Calls Tryd.prog 9 #[.agg #[.int .i64 i0, .bool b0], .int .i64 i1] W fun e W' => e = .returned (.bool true) ∧ Below W.heap.size W W' := by
  cases b0
  · exact way0 i0 i1 hr W hT
  · exact way1 i0 i1 hr W hT
theorem own : ownKnob Tryd.prog.godebug = none := by kernel_rfl
theorem laidOut : laidOutB Tryd.prog = true := by kernel_rfl
theorem contract (H : Type) (enc : TypeId × Value → H) (W : World) (base : Nat) (args : Array Value) (ds gs : List (DataW H)) (before : List MemPlace)
    (hval : ∀ (j : Nat) t v, Tryd.f9.params[j]? = some t → args[j]? = some v → Value.okWide Tryd.prog W .any base t v)
    (hW : DataW.Whole enc Tryd.prog Tryd.f9.params.toList Rows.atomNilSpec.vars false W args.toList ds gs before) (hL : laidMetH Tryd.prog Rows.atomNilRow.laid W) :
    Calls Tryd.prog 9 args W fun e W' => ∃ v, e = .returned v ∧ Rows.atomNilSpec.post enc Tryd.prog Tryd.f9 false true false false W args v W' := by
  have hW' := hW
  obtain ⟨p, q, hA0, hV, rfl, hfz, hnd⟩ := hW
  have hA : DataW.TrodAll enc Tryd.prog W 0 (fun _ => true) true Tryd.f9.params.toList args.toList ds p := hA0
  rw [Tryd.params9] at hA hval
  obtain ⟨v0, vs0, d0, ds0, p0, q0, hargs, rfl, rfl, h0, r0⟩ := trodAll_cons hA
  obtain ⟨v1, vs1, d1, ds1, p1, q1, rfl, rfl, rfl, h1, r1⟩ := trodAll_cons r0
  obtain ⟨rfl, rfl, rfl⟩ := trodAll_nil r1
  obtain rfl : args = #[v0, v1] := by cases args; simp_all
  obtain ⟨rfl, rfl⟩ := trodVars_none hV
  have k0 := h0
  have lt0 : ∀ x ∈ p0, x.block < W.heap.size := by obtain ⟨m, hm⟩ := k0; exact DataW.trod_lt m _ _ _ hm
  have k1 := h1
  have lt1 : ∀ x ∈ p1, x.block < W.heap.size := by obtain ⟨m, hm⟩ := k1; exact DataW.trod_lt m _ _ _ hm
  obtain ⟨cs0, rfl, hc0⟩ := open_agg (n := 10) (ks := [.int .i64, .bool]) (show openT Tryd.prog 10 45 = _ by kernel_rfl) (by kernel_rfl) (hval 0 45 v0 rfl rfl) h0
  obtain ⟨_, _, ⟨i0, rfl, z0_0⟩, ⟨_, _, ⟨b0, rfl⟩, rfl, rfl⟩, rfl⟩ := hc0
  obtain ⟨i1, rfl, z1⟩ : ∃ n, v1 = .int .i64 n ∧ (Lit.int .i64 n).wf = true := open_num Tryd.underlying3 (hval 1 3 v1 rfl rfl) h1
  have T : TabsIn (valOf [i0, i1]) 9 ts0 W := tabs_of (valOf [i0, i1]) hL
  clear hA0
  have hr : ∀ x ∈ ([i0, i1] : List Int), (Lit.int .i64 x).wf = true := by
    intro x hx
    simp only [List.mem_cons, List.not_mem_nil, or_false] at hx
    rcases hx with rfl | rfl
    · exact z0_0
    · exact z1
  refine (law i0 i1 b0 hr W T).mono fun e W' ⟨he, bel⟩ => ?_
  subst he
  exact ⟨_, rfl, _, _, _, [], _, [], hW', trodAll_mk1 (shut_bool Tryd.underlying4 _), (trodAll_cons_mk (Below.trod laidOut (by kernel_rfl) (of_decide_eq_true (by kernel_rfl)) k0 bel lt0) (trodAll_cons_mk (Below.trod laidOut (by kernel_rfl) (of_decide_eq_true (by kernel_rfl)) k1 bel lt1) trodAll_mk0)), rfl, bel.frame _, fun h => by cases h⟩
/-- A world for the witness: the settled one, the tables holding what their initialisers lay. -/
noncomputable def laidWorld (os : Os) : World :=
  { World.holding Tryd.prog os ⟨#[], #[], []⟩ with heap := (World.holding Tryd.prog os ⟨#[], #[], []⟩).heap.modify 0 fun
      | .cells _ t frozen => .cells #[.string ⟨#[]⟩, .int .i64 0, .int .i64 0, .int .i64 0, .string ⟨#[115, 101, 116]⟩, .int .i64 1, .int .i64 2, .int .i64 0, .string ⟨#[97, 100, 100]⟩, .int .i64 1, .int .i64 1, .int .i64 1, .string ⟨#[108, 111, 97, 100]⟩, .int .i64 1, .int .i64 1, .int .i64 0, .string ⟨#[115, 116, 111, 114, 101]⟩, .int .i64 1, .int .i64 1, .int .i64 0, .string ⟨#[115, 119, 97, 112]⟩, .int .i64 1, .int .i64 1, .int .i64 0, .string ⟨#[102, 101, 110, 99, 101]⟩, .int .i64 0, .int .i64 0, .int .i64 0, .string ⟨#[119, 111, 114, 108, 100]⟩, .int .i64 3, .int .i64 0, .int .i64 0, .string ⟨#[99, 97, 108, 108]⟩, .int .i64 4, .int .i64 1, .int .i64 1, .string ⟨#[106, 117, 109, 112]⟩, .int .i64 5, .int .i64 0, .int .i64 0, .string ⟨#[122, 101, 114, 111]⟩, .int .i64 1, .int .i64 5, .int .i64 0, .string ⟨#[104, 97, 108, 116]⟩, .int .i64 0, .int .i64 0, .int .i64 0] t frozen
      | o => o }
theorem laid_met (os : Os) : laidMet Tryd.prog Rows.atomNilRow.laid ((laidWorld os).forCall (fun _ _ => 0) ⟨#[], #[.agg #[.int .i64 0, .bool false], .int .i64 0], []⟩).memory :=
  laidMet_of_run' 8 (by kernel_rfl) (by kernel_rfl)
theorem reads (os : Os) {H : Type} (enc : TypeId × Value → H) : ∃ places, DataW.whole enc Tryd.prog ((laidWorld os).forCall (fun _ _ => 0) ⟨#[], #[.agg #[.int .i64 0, .bool false], .int .i64 0], []⟩).memory Tryd.f9.params.toList Rows.atomNilSpec.vars false (#[.agg #[.int .i64 0, .bool false], .int .i64 0] : Array Value).toList 8 = some ([.agg [.lit (.int .i64 0), .lit (.bool false)], .lit (.int .i64 0)], [], places) :=
  ⟨[], by kernel_rfl⟩
set_option maxRecDepth 100000 in
theorem lifted (os : Os) (started : os.Started) (H : Type) (enc : TypeId × Value → H) (F : Stop.Interp) :
    ReturnsInHanded {} Tryd.checked os 9 .any ((OpenSpec.ofChange Rows.atomNilSpec).preRow enc Tryd.prog Tryd.f9 Rows.atomNilRow.domain false Rows.atomNilRow.laid) (((OpenSpec.ofChange Rows.atomNilSpec).at F).post enc Tryd.prog Tryd.f9 false true false false) := by
  obtain ⟨places, hx⟩ := reads os enc
  refine returnsInHanded_of_row (C := Tryd.checked) (s := OpenSpec.ofChange Rows.atomNilSpec) own started (by kernel_rfl) Tryd.func9
    (witness_row_at (enc := enc) (C := Tryd.checked) false (laidWorld os) #[.agg #[.int .i64 0, .bool false], .int .i64 0] rfl (by kernel_rfl) (by kernel_rfl) (by kernel_rfl)
      (OpenSpec.preRow_of_cond 8 hx (by kernel_rfl) (fun k hk => by cases hk) (by kernel_rfl) (laid_met os))) ?_
  intro W base args ds gs before hval hW _ _ _ hL _ _
  exact contract H enc W base args ds gs before hval hW hL
theorem said : Rows.AtomNilSaid :=
  OpenClaim.holds_of_cond 9 Tryd.f9 rfl rfl rfl rfl rfl rfl rfl ⟨rfl, rfl, rfl, rfl, rfl⟩ rfl rfl rfl rfl rfl (by kernel_rfl) Tryd.func9 (by kernel_rfl)
    (of_decide_eq_true (by kernel_rfl)) (by unfold Func.isWrapper; first | (rw [if_pos (by decide +kernel)]; kernel_rfl) | (rw [if_neg (by decide +kernel)]; exact ⟨rfl, rfl⟩))
    (fun os started H enc _ F => by rw [OpenClaim.pre_eq_preRow]; exact lifted os started H enc F)
/-- No parameter wants a stand-in; the program's own looks are off. -/
theorem plain (f : FuncId) (fn : Func) (hf : Tryd.pinned.checked.prog.funcNamed "donjon/donjonlaw11.AtomNil" = some f) (hfn : Tryd.pinned.checked.prog.funcs[f]? = some fn) :
    true = Tryd.pinned.checked.prog.looks [] ∧ ∀ (j : Nat) t, fn.params[j]? = some t → Tryd.pinned.checked.prog.wantsStandIn t = false := by
  obtain rfl : f = 9 := Option.some.inj ((show Tryd.prog.funcNamed "donjon/donjonlaw11.AtomNil" = some 9 by kernel_rfl).symm.trans hf) |>.symm
  obtain rfl : fn = Tryd.f9 := (Option.some.inj (Tryd.func9.symm.trans hfn)).symm
  refine ⟨by kernel_rfl, fun j t ht => ?_⟩
  rw [Tryd.params9] at ht
  have hm := Array.mem_of_getElem? ht
  have all : (#[45, 3] : Array Nat).all (fun t => !Tryd.pinned.checked.prog.wantsStandIn t) = true := by kernel_rfl
  have := Array.all_eq_true_iff_forall_mem.1 all t hm
  simpa using this
theorem card : Rows.AtomNilCardSaid :=
  Claim7.holds_tied_plain_at .later [] _ _ _ _ said (fun _ h => by cases h) (by kernel_rfl) (fun _ h => by cases h) atomNil_row_tie rfl ⟨rfl, rfl⟩ (by kernel_rfl) rfl plain (by kernel_rfl)
#print axioms card
end Go.Proofs.YtfiangiajhdhcaaDoor.atomNilCard
