/- A note that may be may be, and is the same text, in a configuration of more cores and granules, too: for every configuration, note and how many more the law NoteMore returns true. The tables are tied to the program's text by the card. No condition. -/
import Derived.Test.YtpabnkbpklggnaaDoorCards
import Derived.Test.YtpabnkbpklggnaaDoorTie
import Derived.Test.YtpabnkbpklggnaaDoorNMQ0
import Derived.Test.YtpabnkbpklggnaaDoorNMQ1
import Derived.Test.YtpabnkbpklggnaaDoorNMQ2
import Derived.Test.YtpabnkbpklggnaaDoorNMQ3
import Derived.Test.YtpabnkbpklggnaaDoorNMH
import Derived.Test.YtpabnkbpklggnaaDoorJO
import Derived.WalkKit
import Derived.ProofKit
import Derived.OpenShut
import Derived.Carry
import Derived.Deep.DeepHandedRow
import Derived.Lib.LaidTab
import Derived.KernelRfl
namespace Go.Proofs.YtpabnkbpklggnaaDoor
open Go.RowKit
set_option linter.unusedVariables false
set_option maxRecDepth 100000

theorem wayNM0 (i0 i1 i2 i3 i4 i5 i6 i7 i8 i9 i10 i11 i12 i13 i14 i15 i16 : Int) (hr : ∀ x ∈ ([i0, i1, i2, i3, i4, i5, i6, i7, i8, i9, i10, i11, i12, i13, i14, i15, i16] : List Int), (Lit.int .i64 x).wf = true) (W : World) (hT : TabsIn (valOf [i0, i1, i2, i3, i4, i5, i6, i7, i8, i9, i10, i11, i12, i13, i14, i15, i16]) 5 tsY03 W) : Calls Tryd.prog 6 #[.agg #[.int .i64 i0, .int .i64 i1, .int .i64 i2, .int .i64 i3, .int .i64 i4, .int .i64 i5, .int .i64 i6], .agg #[.int .i64 i7, .int .i64 i8, .int .i64 i9, .int .i64 i10, .int .i64 i11, .int .i64 i12, .int .i64 i13, .bool false, .int .i64 i14], .agg #[.int .i64 i15, .int .i64 i16]] W fun e W' => e = .returned (.bool true) ∧ Below W.heap.size W W' := by
  have hr' : ∀ x ∈ ([i0, i1, i2, i3, i4, i5, i6, i7, i8, i9, i10, i11, i12, i13, i14, i15, i16, max 0 (min 3 i15), max 0 (min 15 i16)] : List Int), (Lit.int .i64 x).wf = true := by
    intro x hx
    have hx' : x ∈ ([i0, i1, i2, i3, i4, i5, i6, i7, i8, i9, i10, i11, i12, i13, i14, i15, i16] : List Int) ++ [max 0 (min 3 i15), max 0 (min 15 i16)] := hx
    rcases List.mem_append.1 hx' with h | h
    · exact hr x h
    · simp only [List.mem_cons, List.not_mem_nil, or_false] at h
      rcases h with rfl | rfl
      · exact wf_small (by omega) (by omega)
      · exact wf_small (by omega) (by omega)
  have hA := rangeAsm_ok hr' 19
  have hR := valOf_range hr'
  have hT' : TabsIn (valOf [i0, i1, i2, i3, i4, i5, i6, i7, i8, i9, i10, i11, i12, i13, i14, i15, i16, max 0 (min 3 i15), max 0 (min 15 i16)]) 5 tsY03 W := fun g l hm => by
    obtain ⟨k1, us, el, fz, k2, k3⟩ := hT g l hm
    exact ⟨k1, us, el, fz, k2, DenL.lits (tsY03_lit g l hm).2 k3⟩
  have hU : DenL (valOf [i0, i1, i2, i3, i4, i5, i6, i7, i8, i9, i10, i11, i12, i13, i14, i15, i16, max 0 (min 3 i15), max 0 (min 15 i16)]) (rho0 5) [cfNM, ntNM0, moNM] [.agg #[.int .i64 i0, .int .i64 i1, .int .i64 i2, .int .i64 i3, .int .i64 i4, .int .i64 i5, .int .i64 i6], .agg #[.int .i64 i7, .int .i64 i8, .int .i64 i9, .int .i64 i10, .int .i64 i11, .int .i64 i12, .int .i64 i13, .bool false, .int .i64 i14], .agg #[.int .i64 i15, .int .i64 i16]] := by
    simp [cfNM, ntNM0, moNM, DenL, Den, IE.den, valOf]
  have e15 : (valOf [i0, i1, i2, i3, i4, i5, i6, i7, i8, i9, i10, i11, i12, i13, i14, i15, i16, max 0 (min 3 i15), max 0 (min 15 i16)]).I 15 = i15 := rfl
  have e16 : (valOf [i0, i1, i2, i3, i4, i5, i6, i7, i8, i9, i10, i11, i12, i13, i14, i15, i16, max 0 (min 3 i15), max 0 (min 15 i16)]).I 16 = i16 := rfl
  have e17 : (valOf [i0, i1, i2, i3, i4, i5, i6, i7, i8, i9, i10, i11, i12, i13, i14, i15, i16, max 0 (min 3 i15), max 0 (min 15 i16)]).I 17 = max 0 (min 3 i15) := rfl
  have e18 : (valOf [i0, i1, i2, i3, i4, i5, i6, i7, i8, i9, i10, i11, i12, i13, i14, i15, i16, max 0 (min 3 i15), max 0 (min 15 i16)]).I 18 = max 0 (min 15 i16) := rfl
  generalize (valOf [i0, i1, i2, i3, i4, i5, i6, i7, i8, i9, i10, i11, i12, i13, i14, i15, i16, max 0 (min 3 i15), max 0 (min 15 i16)]) = E at hA hR hT' hU e15 e16 e17 e18
  obtain ⟨q0, c0, f0, g0⟩ := rg_ok (I := E.I) (j := 15) (b := 3) (by omega)
  obtain ⟨q1, c1, f1, g1⟩ := rg_ok (I := E.I) (j := 16) (b := 15) (by omega)
  have hq : runQ0 q0 q1 = true := by
    rcases c0 with rfl | rfl | rfl <;> rcases c1 with rfl | rfl | rfl
    · exact q0AA
    · exact q0AB
    · exact q0AC
    · exact q0BA
    · exact q0BB
    · exact q0BC
    · exact q0CA
    · exact q0CB
    · exact q0CC
  exact core0 E _ W q0 q1 (mkA_ok hA f0 f1 (by rw [g0, e15, e17]) (by rw [g1, e16, e18])) hA hR (by rw [e17]; omega) (by rw [e18]; omega) hq hT' hU
theorem wayNM1 (i0 i1 i2 i3 i4 i5 i6 i7 i8 i9 i10 i11 i12 i13 i14 i15 i16 : Int) (hr : ∀ x ∈ ([i0, i1, i2, i3, i4, i5, i6, i7, i8, i9, i10, i11, i12, i13, i14, i15, i16] : List Int), (Lit.int .i64 x).wf = true) (W : World) (hT : TabsIn (valOf [i0, i1, i2, i3, i4, i5, i6, i7, i8, i9, i10, i11, i12, i13, i14, i15, i16]) 5 tsY03 W) : Calls Tryd.prog 6 #[.agg #[.int .i64 i0, .int .i64 i1, .int .i64 i2, .int .i64 i3, .int .i64 i4, .int .i64 i5, .int .i64 i6], .agg #[.int .i64 i7, .int .i64 i8, .int .i64 i9, .int .i64 i10, .int .i64 i11, .int .i64 i12, .int .i64 i13, .bool true, .int .i64 i14], .agg #[.int .i64 i15, .int .i64 i16]] W fun e W' => e = .returned (.bool true) ∧ Below W.heap.size W W' := by
  have hr' : ∀ x ∈ ([i0, i1, i2, i3, i4, i5, i6, i7, i8, i9, i10, i11, i12, i13, i14, i15, i16, max 0 (min 3 i15), max 0 (min 15 i16)] : List Int), (Lit.int .i64 x).wf = true := by
    intro x hx
    have hx' : x ∈ ([i0, i1, i2, i3, i4, i5, i6, i7, i8, i9, i10, i11, i12, i13, i14, i15, i16] : List Int) ++ [max 0 (min 3 i15), max 0 (min 15 i16)] := hx
    rcases List.mem_append.1 hx' with h | h
    · exact hr x h
    · simp only [List.mem_cons, List.not_mem_nil, or_false] at h
      rcases h with rfl | rfl
      · exact wf_small (by omega) (by omega)
      · exact wf_small (by omega) (by omega)
  have hA := rangeAsm_ok hr' 19
  have hR := valOf_range hr'
  have hT' : TabsIn (valOf [i0, i1, i2, i3, i4, i5, i6, i7, i8, i9, i10, i11, i12, i13, i14, i15, i16, max 0 (min 3 i15), max 0 (min 15 i16)]) 5 tsY03 W := fun g l hm => by
    obtain ⟨k1, us, el, fz, k2, k3⟩ := hT g l hm
    exact ⟨k1, us, el, fz, k2, DenL.lits (tsY03_lit g l hm).2 k3⟩
  have hU : DenL (valOf [i0, i1, i2, i3, i4, i5, i6, i7, i8, i9, i10, i11, i12, i13, i14, i15, i16, max 0 (min 3 i15), max 0 (min 15 i16)]) (rho0 5) [cfNM, ntNM1, moNM] [.agg #[.int .i64 i0, .int .i64 i1, .int .i64 i2, .int .i64 i3, .int .i64 i4, .int .i64 i5, .int .i64 i6], .agg #[.int .i64 i7, .int .i64 i8, .int .i64 i9, .int .i64 i10, .int .i64 i11, .int .i64 i12, .int .i64 i13, .bool true, .int .i64 i14], .agg #[.int .i64 i15, .int .i64 i16]] := by
    simp [cfNM, ntNM1, moNM, DenL, Den, IE.den, valOf]
  have e15 : (valOf [i0, i1, i2, i3, i4, i5, i6, i7, i8, i9, i10, i11, i12, i13, i14, i15, i16, max 0 (min 3 i15), max 0 (min 15 i16)]).I 15 = i15 := rfl
  have e16 : (valOf [i0, i1, i2, i3, i4, i5, i6, i7, i8, i9, i10, i11, i12, i13, i14, i15, i16, max 0 (min 3 i15), max 0 (min 15 i16)]).I 16 = i16 := rfl
  have e17 : (valOf [i0, i1, i2, i3, i4, i5, i6, i7, i8, i9, i10, i11, i12, i13, i14, i15, i16, max 0 (min 3 i15), max 0 (min 15 i16)]).I 17 = max 0 (min 3 i15) := rfl
  have e18 : (valOf [i0, i1, i2, i3, i4, i5, i6, i7, i8, i9, i10, i11, i12, i13, i14, i15, i16, max 0 (min 3 i15), max 0 (min 15 i16)]).I 18 = max 0 (min 15 i16) := rfl
  generalize (valOf [i0, i1, i2, i3, i4, i5, i6, i7, i8, i9, i10, i11, i12, i13, i14, i15, i16, max 0 (min 3 i15), max 0 (min 15 i16)]) = E at hA hR hT' hU e15 e16 e17 e18
  obtain ⟨q0, c0, f0, g0⟩ := rg_ok (I := E.I) (j := 15) (b := 3) (by omega)
  obtain ⟨q1, c1, f1, g1⟩ := rg_ok (I := E.I) (j := 16) (b := 15) (by omega)
  have hq : runQ1 q0 q1 = true := by
    rcases c0 with rfl | rfl | rfl <;> rcases c1 with rfl | rfl | rfl
    · exact q1AA
    · exact q1AB
    · exact q1AC
    · exact q1BA
    · exact q1BB
    · exact q1BC
    · exact q1CA
    · exact q1CB
    · exact q1CC
  exact core1 E _ W q0 q1 (mkA_ok hA f0 f1 (by rw [g0, e15, e17]) (by rw [g1, e16, e18])) hA hR (by rw [e17]; omega) (by rw [e18]; omega) hq hT' hU
end Go.Proofs.YtpabnkbpklggnaaDoor
namespace Go.Proofs.YtpabnkbpklggnaaDoor.noteMoreCard
open Go.ChangeShapes Go.WideShapes Go.ChangeAt Go.RowKit
set_option linter.unusedVariables false
set_option maxRecDepth 100000
theorem way0 (i0 i1 i2 i3 i4 i5 i6 i7 i8 i9 i10 i11 i12 i13 i14 i15 i16 : Int) (hr : ∀ x ∈ ([i0, i1, i2, i3, i4, i5, i6, i7, i8, i9, i10, i11, i12, i13, i14, i15, i16] : List Int), (Lit.int .i64 x).wf = true) (W : World) (hT : TabsIn (valOf [i0, i1, i2, i3, i4, i5, i6, i7, i8, i9, i10, i11, i12, i13, i14, i15, i16]) 5 tsY03 W) : Calls Tryd.prog 6 #[.agg #[.int .i64 i0, .int .i64 i1, .int .i64 i2, .int .i64 i3, .int .i64 i4, .int .i64 i5, .int .i64 i6], .agg #[.int .i64 i7, .int .i64 i8, .int .i64 i9, .int .i64 i10, .int .i64 i11, .int .i64 i12, .int .i64 i13, .bool false, .int .i64 i14], .agg #[.int .i64 i15, .int .i64 i16]] W fun e W' => e = .returned (.bool true) ∧ Below W.heap.size W W' :=
  wayNM0 i0 i1 i2 i3 i4 i5 i6 i7 i8 i9 i10 i11 i12 i13 i14 i15 i16 hr W hT
theorem way1 (i0 i1 i2 i3 i4 i5 i6 i7 i8 i9 i10 i11 i12 i13 i14 i15 i16 : Int) (hr : ∀ x ∈ ([i0, i1, i2, i3, i4, i5, i6, i7, i8, i9, i10, i11, i12, i13, i14, i15, i16] : List Int), (Lit.int .i64 x).wf = true) (W : World) (hT : TabsIn (valOf [i0, i1, i2, i3, i4, i5, i6, i7, i8, i9, i10, i11, i12, i13, i14, i15, i16]) 5 tsY03 W) : Calls Tryd.prog 6 #[.agg #[.int .i64 i0, .int .i64 i1, .int .i64 i2, .int .i64 i3, .int .i64 i4, .int .i64 i5, .int .i64 i6], .agg #[.int .i64 i7, .int .i64 i8, .int .i64 i9, .int .i64 i10, .int .i64 i11, .int .i64 i12, .int .i64 i13, .bool true, .int .i64 i14], .agg #[.int .i64 i15, .int .i64 i16]] W fun e W' => e = .returned (.bool true) ∧ Below W.heap.size W W' :=
  wayNM1 i0 i1 i2 i3 i4 i5 i6 i7 i8 i9 i10 i11 i12 i13 i14 i15 i16 hr W hT
theorem law (i0 : Int) (i1 : Int) (i2 : Int) (i3 : Int) (i4 : Int) (i5 : Int) (i6 : Int) (i7 : Int) (i8 : Int) (i9 : Int) (i10 : Int) (i11 : Int) (i12 : Int) (i13 : Int) (i14 : Int) (i15 : Int) (i16 : Int) (b0 : Bool) (hr : ∀ x ∈ ([i0, i1, i2, i3, i4, i5, i6, i7, i8, i9, i10, i11, i12, i13, i14, i15, i16] : List Int), (Lit.int .i64 x).wf = true) (W : World) (hT : TabsIn (valOf [i0, i1, i2, i3, i4, i5, i6, i7, i8, i9, i10, i11, i12, i13, i14, i15, i16]) 5 tsY03 W) : Calls Tryd.prog 6 #[.agg #[.int .i64 i0, .int .i64 i1, .int .i64 i2, .int .i64 i3, .int .i64 i4, .int .i64 i5, .int .i64 i6], .agg #[.int .i64 i7, .int .i64 i8, .int .i64 i9, .int .i64 i10, .int .i64 i11, .int .i64 i12, .int .i64 i13, .bool b0, .int .i64 i14], .agg #[.int .i64 i15, .int .i64 i16]] W fun e W' => e = .returned (.bool true) ∧ Below W.heap.size W W' := by
  cases b0
  · exact way0 i0 i1 i2 i3 i4 i5 i6 i7 i8 i9 i10 i11 i12 i13 i14 i15 i16 hr W hT
  · exact way1 i0 i1 i2 i3 i4 i5 i6 i7 i8 i9 i10 i11 i12 i13 i14 i15 i16 hr W hT
theorem own : ownKnob Tryd.prog.godebug = none := by kernel_rfl
theorem laidOut : laidOutB Tryd.prog = true := by kernel_rfl
theorem contract (H : Type) (enc : TypeId × Value → H) (W : World) (base : Nat) (args : Array Value) (ds gs : List (DataW H)) (before : List MemPlace)
    (hval : ∀ (j : Nat) t v, Tryd.f6.params[j]? = some t → args[j]? = some v → Value.okWide Tryd.prog W .any base t v)
    (hW : DataW.Whole enc Tryd.prog Tryd.f6.params.toList Rows.noteMoreSpec.vars false W args.toList ds gs before) (hL : laidMetH Tryd.prog Rows.noteMoreRow.laid W) :
    Calls Tryd.prog 6 args W fun e W' => ∃ v, e = .returned v ∧ Rows.noteMoreSpec.post enc Tryd.prog Tryd.f6 false true false false W args v W' := by
  have hW' := hW
  obtain ⟨p, q, hA0, hV, rfl, hfz, hnd⟩ := hW
  have hA : DataW.TrodAll enc Tryd.prog W 0 (fun _ => true) true Tryd.f6.params.toList args.toList ds p := hA0
  rw [Tryd.params6] at hA hval
  obtain ⟨v0, vs0, d0, ds0, p0, q0, hargs, rfl, rfl, h0, r0⟩ := trodAll_cons hA
  obtain ⟨v1, vs1, d1, ds1, p1, q1, rfl, rfl, rfl, h1, r1⟩ := trodAll_cons r0
  obtain ⟨v2, vs2, d2, ds2, p2, q2, rfl, rfl, rfl, h2, r2⟩ := trodAll_cons r1
  obtain ⟨rfl, rfl, rfl⟩ := trodAll_nil r2
  obtain rfl : args = #[v0, v1, v2] := by cases args; simp_all
  obtain ⟨rfl, rfl⟩ := trodVars_none hV
  have k0 := h0
  have lt0 : ∀ x ∈ p0, x.block < W.heap.size := by obtain ⟨m, hm⟩ := k0; exact DataW.trod_lt m _ _ _ hm
  have k1 := h1
  have lt1 : ∀ x ∈ p1, x.block < W.heap.size := by obtain ⟨m, hm⟩ := k1; exact DataW.trod_lt m _ _ _ hm
  have k2 := h2
  have lt2 : ∀ x ∈ p2, x.block < W.heap.size := by obtain ⟨m, hm⟩ := k2; exact DataW.trod_lt m _ _ _ hm
  obtain ⟨cs0, rfl, hc0⟩ := open_agg (n := 10) (ks := [.int .i64, .int .i64, .int .i64, .int .i64, .int .i64, .int .i64, .int .i64]) (show openT Tryd.prog 10 23 = _ by kernel_rfl) (by kernel_rfl) (hval 0 23 v0 rfl rfl) h0
  obtain ⟨_, _, ⟨i0, rfl, z0_0⟩, ⟨_, _, ⟨i1, rfl, z0_1⟩, ⟨_, _, ⟨i2, rfl, z0_2⟩, ⟨_, _, ⟨i3, rfl, z0_3⟩, ⟨_, _, ⟨i4, rfl, z0_4⟩, ⟨_, _, ⟨i5, rfl, z0_5⟩, ⟨_, _, ⟨i6, rfl, z0_6⟩, rfl, rfl⟩, rfl⟩, rfl⟩, rfl⟩, rfl⟩, rfl⟩, rfl⟩ := hc0
  obtain ⟨cs1, rfl, hc1⟩ := open_agg (n := 10) (ks := [.int .i64, .int .i64, .int .i64, .int .i64, .int .i64, .int .i64, .int .i64, .bool, .int .i64]) (show openT Tryd.prog 10 27 = _ by kernel_rfl) (by kernel_rfl) (hval 1 27 v1 rfl rfl) h1
  obtain ⟨_, _, ⟨i7, rfl, z1_0⟩, ⟨_, _, ⟨i8, rfl, z1_1⟩, ⟨_, _, ⟨i9, rfl, z1_2⟩, ⟨_, _, ⟨i10, rfl, z1_3⟩, ⟨_, _, ⟨i11, rfl, z1_4⟩, ⟨_, _, ⟨i12, rfl, z1_5⟩, ⟨_, _, ⟨i13, rfl, z1_6⟩, ⟨_, _, ⟨b0, rfl⟩, ⟨_, _, ⟨i14, rfl, z1_8⟩, rfl, rfl⟩, rfl⟩, rfl⟩, rfl⟩, rfl⟩, rfl⟩, rfl⟩, rfl⟩, rfl⟩ := hc1
  obtain ⟨cs2, rfl, hc2⟩ := open_agg (n := 10) (ks := [.int .i64, .int .i64]) (show openT Tryd.prog 10 24 = _ by kernel_rfl) (by kernel_rfl) (hval 2 24 v2 rfl rfl) h2
  obtain ⟨_, _, ⟨i15, rfl, z2_0⟩, ⟨_, _, ⟨i16, rfl, z2_1⟩, rfl, rfl⟩, rfl⟩ := hc2
  have T : TabsIn (valOf [i0, i1, i2, i3, i4, i5, i6, i7, i8, i9, i10, i11, i12, i13, i14, i15, i16]) 5 tsY03 W := tabs_ofY03 (valOf [i0, i1, i2, i3, i4, i5, i6, i7, i8, i9, i10, i11, i12, i13, i14, i15, i16]) hL
  clear hA0
  have hr : ∀ x ∈ ([i0, i1, i2, i3, i4, i5, i6, i7, i8, i9, i10, i11, i12, i13, i14, i15, i16] : List Int), (Lit.int .i64 x).wf = true := by
    intro x hx
    simp only [List.mem_cons, List.not_mem_nil, or_false] at hx
    rcases hx with rfl | rfl | rfl | rfl | rfl | rfl | rfl | rfl | rfl | rfl | rfl | rfl | rfl | rfl | rfl | rfl | rfl
    · exact z0_0
    · exact z0_1
    · exact z0_2
    · exact z0_3
    · exact z0_4
    · exact z0_5
    · exact z0_6
    · exact z1_0
    · exact z1_1
    · exact z1_2
    · exact z1_3
    · exact z1_4
    · exact z1_5
    · exact z1_6
    · exact z1_8
    · exact z2_0
    · exact z2_1
  refine (law i0 i1 i2 i3 i4 i5 i6 i7 i8 i9 i10 i11 i12 i13 i14 i15 i16 b0 hr W T).mono fun e W' ⟨he, bel⟩ => ?_
  subst he
  exact ⟨_, rfl, _, _, _, [], _, [], hW', trodAll_mk1 (shut_bool Tryd.underlying4 _), (trodAll_cons_mk (Below.trod laidOut (by kernel_rfl) (of_decide_eq_true (by kernel_rfl)) k0 bel lt0) (trodAll_cons_mk (Below.trod laidOut (by kernel_rfl) (of_decide_eq_true (by kernel_rfl)) k1 bel lt1) (trodAll_cons_mk (Below.trod laidOut (by kernel_rfl) (of_decide_eq_true (by kernel_rfl)) k2 bel lt2) trodAll_mk0))), rfl, bel.frame _, fun h => by cases h⟩
noncomputable def laySet (cs : Array Value) (x : Obj) : Obj := match x with | .cells _ t frozen => .cells cs t frozen | y => y
noncomputable def laidWorld (os : Os) : World :=
  { World.holding Tryd.prog os ⟨#[], #[], []⟩ with heap := (((((World.holding Tryd.prog os ⟨#[], #[], []⟩).heap).modify 3 (laySet #[.int .u8 0, .int .u8 1, .int .u8 28, .int .u8 2, .int .u8 29, .int .u8 14, .int .u8 24, .int .u8 3, .int .u8 30, .int .u8 22, .int .u8 20, .int .u8 15, .int .u8 25, .int .u8 17, .int .u8 4, .int .u8 8, .int .u8 31, .int .u8 27, .int .u8 13, .int .u8 23, .int .u8 21, .int .u8 19, .int .u8 16, .int .u8 7, .int .u8 26, .int .u8 12, .int .u8 18, .int .u8 6, .int .u8 11, .int .u8 5, .int .u8 10, .int .u8 9])).modify 4 (laySet #[.int .u8 0, .int .u8 1, .int .u8 56, .int .u8 2, .int .u8 57, .int .u8 49, .int .u8 28, .int .u8 3, .int .u8 61, .int .u8 58, .int .u8 42, .int .u8 50, .int .u8 38, .int .u8 29, .int .u8 17, .int .u8 4, .int .u8 62, .int .u8 47, .int .u8 59, .int .u8 36, .int .u8 45, .int .u8 43, .int .u8 51, .int .u8 22, .int .u8 53, .int .u8 39, .int .u8 33, .int .u8 30, .int .u8 24, .int .u8 18, .int .u8 12, .int .u8 5, .int .u8 63, .int .u8 55, .int .u8 48, .int .u8 27, .int .u8 60, .int .u8 41, .int .u8 37, .int .u8 16, .int .u8 46, .int .u8 35, .int .u8 44, .int .u8 21, .int .u8 52, .int .u8 32, .int .u8 23, .int .u8 11, .int .u8 54, .int .u8 26, .int .u8 40, .int .u8 15, .int .u8 34, .int .u8 20, .int .u8 31, .int .u8 10, .int .u8 25, .int .u8 14, .int .u8 19, .int .u8 9, .int .u8 13, .int .u8 8, .int .u8 7, .int .u8 6])).modify 2 (laySet #[.int .u64 1, .int .u64 10, .int .u64 100, .int .u64 1000, .int .u64 10000, .int .u64 100000, .int .u64 1000000, .int .u64 10000000, .int .u64 100000000, .int .u64 1000000000, .int .u64 10000000000, .int .u64 100000000000, .int .u64 1000000000000, .int .u64 10000000000000, .int .u64 100000000000000, .int .u64 1000000000000000, .int .u64 10000000000000000, .int .u64 100000000000000000, .int .u64 1000000000000000000, .int .u64 10000000000000000000])).modify 0 (laySet #[.string ⟨#[]⟩, .int .i64 0, .int .i64 0, .int .i64 0, .int .i64 0, .int .i64 0, .int .i64 0, .int .i64 0, .int .i64 0, .string ⟨#[103, 101, 116, 115]⟩, .int .i64 0, .int .i64 1, .int .i64 2, .int .i64 3, .int .i64 0, .int .i64 0, .int .i64 0, .int .i64 0, .string ⟨#[103, 101, 116, 109]⟩, .int .i64 0, .int .i64 1, .int .i64 2, .int .i64 3, .int .i64 0, .int .i64 0, .int .i64 0, .int .i64 0, .string ⟨#[112, 117, 116]⟩, .int .i64 0, .int .i64 1, .int .i64 2, .int .i64 4, .int .i64 8, .int .i64 9, .int .i64 10, .int .i64 0, .string ⟨#[100, 111, 110, 101]⟩, .int .i64 1, .int .i64 1, .int .i64 2, .int .i64 0, .int .i64 0, .int .i64 0, .int .i64 0, .int .i64 0, .string ⟨#[114, 101, 112, 108, 121]⟩, .int .i64 1, .int .i64 1, .int .i64 2, .int .i64 5, .int .i64 8, .int .i64 9, .int .i64 10, .int .i64 13, .string ⟨#[119, 97, 108, 107]⟩, .int .i64 0, .int .i64 1, .int .i64 11, .int .i64 0, .int .i64 0, .int .i64 0, .int .i64 0, .int .i64 0, .string ⟨#[100, 114, 111, 112, 112, 101, 100]⟩, .int .i64 1, .int .i64 1, .int .i64 12, .int .i64 0, .int .i64 0, .int .i64 0, .int .i64 0, .int .i64 0, .string ⟨#[103, 114, 97, 110, 116]⟩, .int .i64 2, .int .i64 1, .int .i64 2, .int .i64 4, .int .i64 6, .int .i64 8, .int .i64 9, .int .i64 0, .string ⟨#[110, 97, 99, 107]⟩, .int .i64 2, .int .i64 1, .int .i64 2, .int .i64 13, .int .i64 0, .int .i64 0, .int .i64 0, .int .i64 0, .string ⟨#[112, 117, 116, 97, 99, 107]⟩, .int .i64 2, .int .i64 1, .int .i64 2, .int .i64 0, .int .i64 0, .int .i64 0, .int .i64 0, .int .i64 0, .string ⟨#[112, 114, 111, 98, 101]⟩, .int .i64 3, .int .i64 1, .int .i64 2, .int .i64 7, .int .i64 0, .int .i64 0, .int .i64 0, .int .i64 0, .string ⟨#[119, 97, 108, 107, 101, 100]⟩, .int .i64 2, .int .i64 1, .int .i64 8, .int .i64 9, .int .i64 11, .int .i64 0, .int .i64 0, .int .i64 0, .string ⟨#[100, 114, 111, 112]⟩, .int .i64 3, .int .i64 1, .int .i64 12, .int .i64 0, .int .i64 0, .int .i64 0, .int .i64 0, .int .i64 0]) }
theorem laid_met (os : Os) : laidMet Tryd.prog Rows.noteMoreRow.laid ((laidWorld os).forCall (fun _ _ => 0) ⟨#[], #[.agg #[.int .i64 0, .int .i64 0, .int .i64 0, .int .i64 0, .int .i64 0, .int .i64 0, .int .i64 0], .agg #[.int .i64 0, .int .i64 0, .int .i64 0, .int .i64 0, .int .i64 0, .int .i64 0, .int .i64 0, .bool false, .int .i64 0], .agg #[.int .i64 0, .int .i64 0]], []⟩).memory :=
  laidMet_of_run' 8 (by kernel_rfl) (by kernel_rfl)
theorem reads (os : Os) {H : Type} (enc : TypeId × Value → H) : ∃ places, DataW.whole enc Tryd.prog ((laidWorld os).forCall (fun _ _ => 0) ⟨#[], #[.agg #[.int .i64 0, .int .i64 0, .int .i64 0, .int .i64 0, .int .i64 0, .int .i64 0, .int .i64 0], .agg #[.int .i64 0, .int .i64 0, .int .i64 0, .int .i64 0, .int .i64 0, .int .i64 0, .int .i64 0, .bool false, .int .i64 0], .agg #[.int .i64 0, .int .i64 0]], []⟩).memory Tryd.f6.params.toList Rows.noteMoreSpec.vars false (#[.agg #[.int .i64 0, .int .i64 0, .int .i64 0, .int .i64 0, .int .i64 0, .int .i64 0, .int .i64 0], .agg #[.int .i64 0, .int .i64 0, .int .i64 0, .int .i64 0, .int .i64 0, .int .i64 0, .int .i64 0, .bool false, .int .i64 0], .agg #[.int .i64 0, .int .i64 0]] : Array Value).toList 8 = some ([.agg [.lit (.int .i64 0), .lit (.int .i64 0), .lit (.int .i64 0), .lit (.int .i64 0), .lit (.int .i64 0), .lit (.int .i64 0), .lit (.int .i64 0)], .agg [.lit (.int .i64 0), .lit (.int .i64 0), .lit (.int .i64 0), .lit (.int .i64 0), .lit (.int .i64 0), .agg [.lit (.int .i64 0), .lit (.int .i64 0)], .lit (.bool false), .lit (.int .i64 0)], .agg [.lit (.int .i64 0), .lit (.int .i64 0)]], [], places) :=
  ⟨[], by kernel_rfl⟩
set_option maxRecDepth 100000 in
theorem lifted (os : Os) (started : os.Started) (H : Type) (enc : TypeId × Value → H) (F : Stop.Interp) :
    ReturnsInHanded {} Tryd.checked os 6 .any ((OpenSpec.ofChange Rows.noteMoreSpec).preRow enc Tryd.prog Tryd.f6 Rows.noteMoreRow.domain false Rows.noteMoreRow.laid) (((OpenSpec.ofChange Rows.noteMoreSpec).at F).post enc Tryd.prog Tryd.f6 false true false false) := by
  obtain ⟨places, hx⟩ := reads os enc
  refine returnsInHanded_of_row (C := Tryd.checked) (s := OpenSpec.ofChange Rows.noteMoreSpec) own started (by kernel_rfl) Tryd.func6
    (witness_row_at (enc := enc) (C := Tryd.checked) false (laidWorld os) #[.agg #[.int .i64 0, .int .i64 0, .int .i64 0, .int .i64 0, .int .i64 0, .int .i64 0, .int .i64 0], .agg #[.int .i64 0, .int .i64 0, .int .i64 0, .int .i64 0, .int .i64 0, .int .i64 0, .int .i64 0, .bool false, .int .i64 0], .agg #[.int .i64 0, .int .i64 0]] rfl (by kernel_rfl) (by kernel_rfl) (by kernel_rfl)
      (OpenSpec.preRow_of_cond 8 hx (by kernel_rfl) (fun k hk => by cases hk) (by kernel_rfl) (laid_met os))) ?_
  intro W base args ds gs before hval hW _ _ _ hL _ _
  exact contract H enc W base args ds gs before hval hW hL
theorem and_mk {a b : Bool} (h : a = true) (k : b = true) : (a && b) = true := by rw [h, k]; rfl
theorem named : Tryd.prog.funcNamed "donjon/donjonlaw03.NoteMore" = some 6 := by kernel_rfl
set_option maxHeartbeats 4000000 in
theorem closed : joinedFacts Tryd.pinned.checked.prog 6 Tryd.f6 (OpenSpec.ofChange Rows.noteMoreSpec).bare Rows.noteMoreRow = true := by
  unfold joinedFacts
  repeat' with_reducible refine and_mk ?_ ?_
  all_goals as_aux_lemma => kernel_rfl
theorem said : Rows.NoteMoreSaid :=
  OpenClaim.holds_of_cond 6 Tryd.f6 rfl rfl rfl rfl rfl rfl rfl ⟨rfl, rfl, rfl, rfl, rfl⟩ rfl rfl rfl rfl rfl named Tryd.func6 closed
    (of_decide_eq_true (by kernel_rfl)) (by unfold Func.isWrapper; first | (rw [if_pos (by decide +kernel)]; kernel_rfl) | (rw [if_neg (by decide +kernel)]; exact ⟨rfl, rfl⟩))
    (fun os started H enc _ F => by rw [OpenClaim.pre_eq_preRow]; exact lifted os started H enc F)
/-- No parameter wants a stand-in; the program's own looks are off. -/
theorem plain (f : FuncId) (fn : Func) (hf : Tryd.pinned.checked.prog.funcNamed "donjon/donjonlaw03.NoteMore" = some f) (hfn : Tryd.pinned.checked.prog.funcs[f]? = some fn) :
    false = Tryd.pinned.checked.prog.looks [] ∧ ∀ (j : Nat) t, fn.params[j]? = some t → Tryd.pinned.checked.prog.wantsStandIn t = false := by
  obtain rfl : f = 6 := Option.some.inj (named.symm.trans hf) |>.symm
  obtain rfl : fn = Tryd.f6 := (Option.some.inj (Tryd.func6.symm.trans hfn)).symm
  refine ⟨by kernel_rfl, fun j t ht => ?_⟩
  rw [Tryd.params6] at ht
  have hm := Array.mem_of_getElem? ht
  have all : (#[23, 27, 24] : Array Nat).all (fun t => !Tryd.pinned.checked.prog.wantsStandIn t) = true := by kernel_rfl
  have := Array.all_eq_true_iff_forall_mem.1 all t hm
  simpa using this
theorem card : Rows.NoteMoreCardSaid :=
  Claim7.holds_tied_plain_at .later [] _ _ _ _ said (fun _ h => by cases h) (by kernel_rfl) (fun _ h => by cases h) noteMore_row_tie rfl ⟨rfl, rfl⟩ (by kernel_rfl) rfl plain (by kernel_rfl)
#print axioms card
end Go.Proofs.YtpabnkbpklggnaaDoor.noteMoreCard
