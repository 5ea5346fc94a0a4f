/- A nil cache has nothing, and New checks its config: for every op and config the law CacheNil returns true. The table of package moesi is tied to the program's text by the card. No condition. -/
import Derived.Test.YtpabnkbpklggnaaDoorCards
import Derived.Test.YtpabnkbpklggnaaDoorTie
import Derived.Test.YtpabnkbpklggnaaDoorY13
import Derived.WalkKit
import Derived.ProofKit
import Derived.OpenShut
import Derived.Carry
import Derived.Deep.DeepHandedRow
import Derived.Lib.LaidTab
import Derived.KernelRfl
namespace Go.Proofs.YtpabnkbpklggnaaDoor.cacheNilCard
open Go.ChangeShapes Go.WideShapes Go.ChangeAt Go.RowKit
set_option linter.unusedVariables false
set_option maxRecDepth 100000
def tree0 : Tree := (.node .lss (.at 13) (.lit 1) .leaf (.node .gtr (.at 13) (.lit 4) .leaf (.node .lss (.at 14) (.lit 1) .leaf (.node .gtr (.at 14) (.lit 16) .leaf (.node .lss (.at 15) (.lit 1) .leaf (.node .gtr (.at 15) (.lit 8) .leaf (.node .lss (.at 16) (.lit 1) .leaf (.node .gtr (.at 16) (.lit 4) .leaf (.node .lss (.at 17) (.lit 1) .leaf (.node .gtr (.at 17) (.lit 16) .leaf (.node .lss (.at 18) (.lit 1) .leaf (.node .gtr (.at 18) (.lit 8) .leaf (.node .lss (.at 19) (.lit 1) .leaf (.node .gtr (.at 19) (.lit 4) .leaf (.node .eql (.at 15) (.lit 1) .leaf (.node .eql (.at 15) (.lit 2) .leaf (.node .eql (.at 15) (.lit 3) .leaf (.node .eql (.at 15) (.lit 4) .leaf (.node .eql (.at 15) (.lit 5) .leaf (.node .eql (.at 15) (.lit 6) .leaf (.node .eql (.at 15) (.lit 7) .leaf .leaf)))))))))))))))))))))
theorem way0 (i0 i1 i2 i3 i4 i5 i6 i7 i8 i9 i10 i11 i12 i13 i14 i15 i16 i17 i18 i19 : Int) (hr : ∀ x ∈ ([i0, i1, i2, i3, i4, i5, i6, i7, i8, i9, i10, i11, i12, i13, i14, i15, i16, i17, i18, i19] : List Int), (Lit.int .i64 x).wf = true) (W : World) (hT : TabsIn (valOf [i0, i1, i2, i3, i4, i5, i6, i7, i8, i9, i10, i11, i12, i13, i14, i15, i16, i17, i18, i19]) 5 tsY13 W) : Calls Tryd.prog 7 #[.agg #[.int .i64 i0, .int .i64 i1, .int .i64 i2, .int .i64 i3, .int .i64 i4, .bool false, .int .i64 i5, .int .i64 i6, .int .i64 i7, .int .i64 i8, .int .i64 i9, .int .i64 i10, .int .i64 i11, .bool false, .int .i64 i12], .agg #[.int .i64 i13, .int .i64 i14, .int .i64 i15, .int .i64 i16, .int .i64 i17, .int .i64 i18, .int .i64 i19]] W fun e W' => e = .returned (.bool true) ∧ Below W.heap.size W W' :=
  law_ok (E := valOf [i0, i1, i2, i3, i4, i5, i6, i7, i8, i9, i10, i11, i12, i13, i14, i15, i16, i17, i18, i19]) (P := Tryd.prog) (G := 5) (B := BkY13) (ts := tsY13) (k := 3000) (args := [.agg [.int .i64 (.at 0), .int .i64 (.at 1), .int .i64 (.at 2), .int .i64 (.at 3), .int .i64 (.at 4), .bool false, .int .i64 (.at 5), .int .i64 (.at 6), .int .i64 (.at 7), .int .i64 (.at 8), .int .i64 (.at 9), .int .i64 (.at 10), .int .i64 (.at 11), .bool false, .int .i64 (.at 12)], .agg [.int .i64 (.at 13), .int .i64 (.at 14), .int .i64 (.at 15), .int .i64 (.at 16), .int .i64 (.at 17), .int .i64 (.at 18), .int .i64 (.at 19)]]) (t := tree0) (A0 := rangeAsm 20) (by kernel_rfl) (rangeAsm_ok hr 20) (fun A _ => BkY13_ok _ A) hT (by simp [DenL, Den, IE.den, valOf])
def tree1 : Tree := (.node .lss (.at 13) (.lit 1) .leaf (.node .gtr (.at 13) (.lit 4) .leaf (.node .lss (.at 14) (.lit 1) .leaf (.node .gtr (.at 14) (.lit 16) .leaf (.node .lss (.at 15) (.lit 1) .leaf (.node .gtr (.at 15) (.lit 8) .leaf (.node .lss (.at 16) (.lit 1) .leaf (.node .gtr (.at 16) (.lit 4) .leaf (.node .lss (.at 17) (.lit 1) .leaf (.node .gtr (.at 17) (.lit 16) .leaf (.node .lss (.at 18) (.lit 1) .leaf (.node .gtr (.at 18) (.lit 8) .leaf (.node .lss (.at 19) (.lit 1) .leaf (.node .gtr (.at 19) (.lit 4) .leaf (.node .eql (.at 15) (.lit 1) .leaf (.node .eql (.at 15) (.lit 2) .leaf (.node .eql (.at 15) (.lit 3) .leaf (.node .eql (.at 15) (.lit 4) .leaf (.node .eql (.at 15) (.lit 5) .leaf (.node .eql (.at 15) (.lit 6) .leaf (.node .eql (.at 15) (.lit 7) .leaf .leaf)))))))))))))))))))))
theorem way1 (i0 i1 i2 i3 i4 i5 i6 i7 i8 i9 i10 i11 i12 i13 i14 i15 i16 i17 i18 i19 : Int) (hr : ∀ x ∈ ([i0, i1, i2, i3, i4, i5, i6, i7, i8, i9, i10, i11, i12, i13, i14, i15, i16, i17, i18, i19] : List Int), (Lit.int .i64 x).wf = true) (W : World) (hT : TabsIn (valOf [i0, i1, i2, i3, i4, i5, i6, i7, i8, i9, i10, i11, i12, i13, i14, i15, i16, i17, i18, i19]) 5 tsY13 W) : Calls Tryd.prog 7 #[.agg #[.int .i64 i0, .int .i64 i1, .int .i64 i2, .int .i64 i3, .int .i64 i4, .bool false, .int .i64 i5, .int .i64 i6, .int .i64 i7, .int .i64 i8, .int .i64 i9, .int .i64 i10, .int .i64 i11, .bool true, .int .i64 i12], .agg #[.int .i64 i13, .int .i64 i14, .int .i64 i15, .int .i64 i16, .int .i64 i17, .int .i64 i18, .int .i64 i19]] W fun e W' => e = .returned (.bool true) ∧ Below W.heap.size W W' :=
  law_ok (E := valOf [i0, i1, i2, i3, i4, i5, i6, i7, i8, i9, i10, i11, i12, i13, i14, i15, i16, i17, i18, i19]) (P := Tryd.prog) (G := 5) (B := BkY13) (ts := tsY13) (k := 3000) (args := [.agg [.int .i64 (.at 0), .int .i64 (.at 1), .int .i64 (.at 2), .int .i64 (.at 3), .int .i64 (.at 4), .bool false, .int .i64 (.at 5), .int .i64 (.at 6), .int .i64 (.at 7), .int .i64 (.at 8), .int .i64 (.at 9), .int .i64 (.at 10), .int .i64 (.at 11), .bool true, .int .i64 (.at 12)], .agg [.int .i64 (.at 13), .int .i64 (.at 14), .int .i64 (.at 15), .int .i64 (.at 16), .int .i64 (.at 17), .int .i64 (.at 18), .int .i64 (.at 19)]]) (t := tree1) (A0 := rangeAsm 20) (by kernel_rfl) (rangeAsm_ok hr 20) (fun A _ => BkY13_ok _ A) hT (by simp [DenL, Den, IE.den, valOf])
def tree2 : Tree := (.node .lss (.at 13) (.lit 1) .leaf (.node .gtr (.at 13) (.lit 4) .leaf (.node .lss (.at 14) (.lit 1) .leaf (.node .gtr (.at 14) (.lit 16) .leaf (.node .lss (.at 15) (.lit 1) .leaf (.node .gtr (.at 15) (.lit 8) .leaf (.node .lss (.at 16) (.lit 1) .leaf (.node .gtr (.at 16) (.lit 4) .leaf (.node .lss (.at 17) (.lit 1) .leaf (.node .gtr (.at 17) (.lit 16) .leaf (.node .lss (.at 18) (.lit 1) .leaf (.node .gtr (.at 18) (.lit 8) .leaf (.node .lss (.at 19) (.lit 1) .leaf (.node .gtr (.at 19) (.lit 4) .leaf (.node .eql (.at 15) (.lit 1) .leaf (.node .eql (.at 15) (.lit 2) .leaf (.node .eql (.at 15) (.lit 3) .leaf (.node .eql (.at 15) (.lit 4) .leaf (.node .eql (.at 15) (.lit 5) .leaf (.node .eql (.at 15) (.lit 6) .leaf (.node .eql (.at 15) (.lit 7) .leaf .leaf)))))))))))))))))))))
theorem way2 (i0 i1 i2 i3 i4 i5 i6 i7 i8 i9 i10 i11 i12 i13 i14 i15 i16 i17 i18 i19 : Int) (hr : ∀ x ∈ ([i0, i1, i2, i3, i4, i5, i6, i7, i8, i9, i10, i11, i12, i13, i14, i15, i16, i17, i18, i19] : List Int), (Lit.int .i64 x).wf = true) (W : World) (hT : TabsIn (valOf [i0, i1, i2, i3, i4, i5, i6, i7, i8, i9, i10, i11, i12, i13, i14, i15, i16, i17, i18, i19]) 5 tsY13 W) : Calls Tryd.prog 7 #[.agg #[.int .i64 i0, .int .i64 i1, .int .i64 i2, .int .i64 i3, .int .i64 i4, .bool true, .int .i64 i5, .int .i64 i6, .int .i64 i7, .int .i64 i8, .int .i64 i9, .int .i64 i10, .int .i64 i11, .bool false, .int .i64 i12], .agg #[.int .i64 i13, .int .i64 i14, .int .i64 i15, .int .i64 i16, .int .i64 i17, .int .i64 i18, .int .i64 i19]] W fun e W' => e = .returned (.bool true) ∧ Below W.heap.size W W' :=
  law_ok (E := valOf [i0, i1, i2, i3, i4, i5, i6, i7, i8, i9, i10, i11, i12, i13, i14, i15, i16, i17, i18, i19]) (P := Tryd.prog) (G := 5) (B := BkY13) (ts := tsY13) (k := 3000) (args := [.agg [.int .i64 (.at 0), .int .i64 (.at 1), .int .i64 (.at 2), .int .i64 (.at 3), .int .i64 (.at 4), .bool true, .int .i64 (.at 5), .int .i64 (.at 6), .int .i64 (.at 7), .int .i64 (.at 8), .int .i64 (.at 9), .int .i64 (.at 10), .int .i64 (.at 11), .bool false, .int .i64 (.at 12)], .agg [.int .i64 (.at 13), .int .i64 (.at 14), .int .i64 (.at 15), .int .i64 (.at 16), .int .i64 (.at 17), .int .i64 (.at 18), .int .i64 (.at 19)]]) (t := tree2) (A0 := rangeAsm 20) (by kernel_rfl) (rangeAsm_ok hr 20) (fun A _ => BkY13_ok _ A) hT (by simp [DenL, Den, IE.den, valOf])
def tree3 : Tree := (.node .lss (.at 13) (.lit 1) .leaf (.node .gtr (.at 13) (.lit 4) .leaf (.node .lss (.at 14) (.lit 1) .leaf (.node .gtr (.at 14) (.lit 16) .leaf (.node .lss (.at 15) (.lit 1) .leaf (.node .gtr (.at 15) (.lit 8) .leaf (.node .lss (.at 16) (.lit 1) .leaf (.node .gtr (.at 16) (.lit 4) .leaf (.node .lss (.at 17) (.lit 1) .leaf (.node .gtr (.at 17) (.lit 16) .leaf (.node .lss (.at 18) (.lit 1) .leaf (.node .gtr (.at 18) (.lit 8) .leaf (.node .lss (.at 19) (.lit 1) .leaf (.node .gtr (.at 19) (.lit 4) .leaf (.node .eql (.at 15) (.lit 1) .leaf (.node .eql (.at 15) (.lit 2) .leaf (.node .eql (.at 15) (.lit 3) .leaf (.node .eql (.at 15) (.lit 4) .leaf (.node .eql (.at 15) (.lit 5) .leaf (.node .eql (.at 15) (.lit 6) .leaf (.node .eql (.at 15) (.lit 7) .leaf .leaf)))))))))))))))))))))
theorem way3 (i0 i1 i2 i3 i4 i5 i6 i7 i8 i9 i10 i11 i12 i13 i14 i15 i16 i17 i18 i19 : Int) (hr : ∀ x ∈ ([i0, i1, i2, i3, i4, i5, i6, i7, i8, i9, i10, i11, i12, i13, i14, i15, i16, i17, i18, i19] : List Int), (Lit.int .i64 x).wf = true) (W : World) (hT : TabsIn (valOf [i0, i1, i2, i3, i4, i5, i6, i7, i8, i9, i10, i11, i12, i13, i14, i15, i16, i17, i18, i19]) 5 tsY13 W) : Calls Tryd.prog 7 #[.agg #[.int .i64 i0, .int .i64 i1, .int .i64 i2, .int .i64 i3, .int .i64 i4, .bool true, .int .i64 i5, .int .i64 i6, .int .i64 i7, .int .i64 i8, .int .i64 i9, .int .i64 i10, .int .i64 i11, .bool true, .int .i64 i12], .agg #[.int .i64 i13, .int .i64 i14, .int .i64 i15, .int .i64 i16, .int .i64 i17, .int .i64 i18, .int .i64 i19]] W fun e W' => e = .returned (.bool true) ∧ Below W.heap.size W W' :=
  law_ok (E := valOf [i0, i1, i2, i3, i4, i5, i6, i7, i8, i9, i10, i11, i12, i13, i14, i15, i16, i17, i18, i19]) (P := Tryd.prog) (G := 5) (B := BkY13) (ts := tsY13) (k := 3000) (args := [.agg [.int .i64 (.at 0), .int .i64 (.at 1), .int .i64 (.at 2), .int .i64 (.at 3), .int .i64 (.at 4), .bool true, .int .i64 (.at 5), .int .i64 (.at 6), .int .i64 (.at 7), .int .i64 (.at 8), .int .i64 (.at 9), .int .i64 (.at 10), .int .i64 (.at 11), .bool true, .int .i64 (.at 12)], .agg [.int .i64 (.at 13), .int .i64 (.at 14), .int .i64 (.at 15), .int .i64 (.at 16), .int .i64 (.at 17), .int .i64 (.at 18), .int .i64 (.at 19)]]) (t := tree3) (A0 := rangeAsm 20) (by kernel_rfl) (rangeAsm_ok hr 20) (fun A _ => BkY13_ok _ A) hT (by simp [DenL, Den, IE.den, valOf])
theorem law (i0 : Int) (i1 : Int) (i2 : Int) (i3 : Int) (i4 : Int) (i5 : Int) (i6 : Int) (i7 : Int) (i8 : Int) (i9 : Int) (i10 : Int) (i11 : Int) (i12 : Int) (i13 : Int) (i14 : Int) (i15 : Int) (i16 : Int) (i17 : Int) (i18 : Int) (i19 : Int) (b0 : Bool) (b1 : Bool) (hr : ∀ x ∈ ([i0, i1, i2, i3, i4, i5, i6, i7, i8, i9, i10, i11, i12, i13, i14, i15, i16, i17, i18, i19] : List Int), (Lit.int .i64 x).wf = true) (W : World) (hT : TabsIn (valOf [i0, i1, i2, i3, i4, i5, i6, i7, i8, i9, i10, i11, i12, i13, i14, i15, i16, i17, i18, i19]) 5 tsY13 W) : Calls Tryd.prog 7 #[.agg #[.int .i64 i0, .int .i64 i1, .int .i64 i2, .int .i64 i3, .int .i64 i4, .bool b0, .int .i64 i5, .int .i64 i6, .int .i64 i7, .int .i64 i8, .int .i64 i9, .int .i64 i10, .int .i64 i11, .bool b1, .int .i64 i12], .agg #[.int .i64 i13, .int .i64 i14, .int .i64 i15, .int .i64 i16, .int .i64 i17, .int .i64 i18, .int .i64 i19]] W fun e W' => e = .returned (.bool true) ∧ Below W.heap.size W W' := by
  cases b0 <;> cases b1
  · exact way0 i0 i1 i2 i3 i4 i5 i6 i7 i8 i9 i10 i11 i12 i13 i14 i15 i16 i17 i18 i19 hr W hT
  · exact way1 i0 i1 i2 i3 i4 i5 i6 i7 i8 i9 i10 i11 i12 i13 i14 i15 i16 i17 i18 i19 hr W hT
  · exact way2 i0 i1 i2 i3 i4 i5 i6 i7 i8 i9 i10 i11 i12 i13 i14 i15 i16 i17 i18 i19 hr W hT
  · exact way3 i0 i1 i2 i3 i4 i5 i6 i7 i8 i9 i10 i11 i12 i13 i14 i15 i16 i17 i18 i19 hr W hT
theorem own : ownKnob Tryd.prog.godebug = none := by kernel_rfl
theorem laidOut : laidOutB Tryd.prog = true := by kernel_rfl
theorem contract (H : Type) (enc : TypeId × Value → H) (W : World) (base : Nat) (args : Array Value) (ds gs : List (DataW H)) (before : List MemPlace)
    (hval : ∀ (j : Nat) t v, Tryd.f7.params[j]? = some t → args[j]? = some v → Value.okWide Tryd.prog W .any base t v)
    (hW : DataW.Whole enc Tryd.prog Tryd.f7.params.toList Rows.cacheNilSpec.vars false W args.toList ds gs before) (hL : laidMetH Tryd.prog Rows.cacheNilRow.laid W) :
    Calls Tryd.prog 7 args W fun e W' => ∃ v, e = .returned v ∧ Rows.cacheNilSpec.post enc Tryd.prog Tryd.f7 false true false false W args v W' := by
  have hW' := hW
  obtain ⟨p, q, hA0, hV, rfl, hfz, hnd⟩ := hW
  have hA : DataW.TrodAll enc Tryd.prog W 0 (fun _ => true) true Tryd.f7.params.toList args.toList ds p := hA0
  rw [Tryd.params7] at hA hval
  obtain ⟨v0, vs0, d0, ds0, p0, q0, hargs, rfl, rfl, h0, r0⟩ := trodAll_cons hA
  obtain ⟨v1, vs1, d1, ds1, p1, q1, rfl, rfl, rfl, h1, r1⟩ := trodAll_cons r0
  obtain ⟨rfl, rfl, rfl⟩ := trodAll_nil r1
  obtain rfl : args = #[v0, v1] := by cases args; simp_all
  obtain ⟨rfl, rfl⟩ := trodVars_none hV
  have k0 := h0
  have lt0 : ∀ x ∈ p0, x.block < W.heap.size := by obtain ⟨m, hm⟩ := k0; exact DataW.trod_lt m _ _ _ hm
  have k1 := h1
  have lt1 : ∀ x ∈ p1, x.block < W.heap.size := by obtain ⟨m, hm⟩ := k1; exact DataW.trod_lt m _ _ _ hm
  obtain ⟨cs0, rfl, hc0⟩ := open_agg (n := 10) (ks := [.int .i64, .int .i64, .int .i64, .int .i64, .int .i64, .bool, .int .i64, .int .i64, .int .i64, .int .i64, .int .i64, .int .i64, .int .i64, .bool, .int .i64]) (show openT Tryd.prog 10 47 = _ by kernel_rfl) (by kernel_rfl) (hval 0 47 v0 rfl rfl) h0
  obtain ⟨_, _, ⟨i0, rfl, z0_0⟩, ⟨_, _, ⟨i1, rfl, z0_1⟩, ⟨_, _, ⟨i2, rfl, z0_2⟩, ⟨_, _, ⟨i3, rfl, z0_3⟩, ⟨_, _, ⟨i4, rfl, z0_4⟩, ⟨_, _, ⟨b0, rfl⟩, ⟨_, _, ⟨i5, rfl, z0_6⟩, ⟨_, _, ⟨i6, rfl, z0_7⟩, ⟨_, _, ⟨i7, rfl, z0_8⟩, ⟨_, _, ⟨i8, rfl, z0_9⟩, ⟨_, _, ⟨i9, rfl, z0_10⟩, ⟨_, _, ⟨i10, rfl, z0_11⟩, ⟨_, _, ⟨i11, rfl, z0_12⟩, ⟨_, _, ⟨b1, rfl⟩, ⟨_, _, ⟨i12, rfl, z0_14⟩, rfl, rfl⟩, rfl⟩, rfl⟩, rfl⟩, rfl⟩, rfl⟩, rfl⟩, rfl⟩, rfl⟩, rfl⟩, rfl⟩, rfl⟩, rfl⟩, rfl⟩, rfl⟩ := hc0
  obtain ⟨cs1, rfl, hc1⟩ := open_agg (n := 10) (ks := [.int .i64, .int .i64, .int .i64, .int .i64, .int .i64, .int .i64, .int .i64]) (show openT Tryd.prog 10 23 = _ by kernel_rfl) (by kernel_rfl) (hval 1 23 v1 rfl rfl) h1
  obtain ⟨_, _, ⟨i13, rfl, z1_0⟩, ⟨_, _, ⟨i14, rfl, z1_1⟩, ⟨_, _, ⟨i15, rfl, z1_2⟩, ⟨_, _, ⟨i16, rfl, z1_3⟩, ⟨_, _, ⟨i17, rfl, z1_4⟩, ⟨_, _, ⟨i18, rfl, z1_5⟩, ⟨_, _, ⟨i19, rfl, z1_6⟩, rfl, rfl⟩, rfl⟩, rfl⟩, rfl⟩, rfl⟩, rfl⟩, rfl⟩ := hc1
  have T : TabsIn (valOf [i0, i1, i2, i3, i4, i5, i6, i7, i8, i9, i10, i11, i12, i13, i14, i15, i16, i17, i18, i19]) 5 tsY13 W := tabs_ofY13 (valOf [i0, i1, i2, i3, i4, i5, i6, i7, i8, i9, i10, i11, i12, i13, i14, i15, i16, i17, i18, i19]) hL
  clear hA0
  have hr : ∀ x ∈ ([i0, i1, i2, i3, i4, i5, i6, i7, i8, i9, i10, i11, i12, i13, i14, i15, i16, i17, i18, i19] : List Int), (Lit.int .i64 x).wf = true := by
    intro x hx
    simp only [List.mem_cons, List.not_mem_nil, or_false] at hx
    rcases hx with rfl | rfl | rfl | rfl | rfl | rfl | rfl | rfl | rfl | rfl | rfl | rfl | rfl | rfl | rfl | rfl | rfl | rfl | rfl | rfl
    · exact z0_0
    · exact z0_1
    · exact z0_2
    · exact z0_3
    · exact z0_4
    · exact z0_6
    · exact z0_7
    · exact z0_8
    · exact z0_9
    · exact z0_10
    · exact z0_11
    · exact z0_12
    · exact z0_14
    · exact z1_0
    · exact z1_1
    · exact z1_2
    · exact z1_3
    · exact z1_4
    · exact z1_5
    · exact z1_6
  refine (law i0 i1 i2 i3 i4 i5 i6 i7 i8 i9 i10 i11 i12 i13 i14 i15 i16 i17 i18 i19 b0 b1 hr W T).mono fun e W' ⟨he, bel⟩ => ?_
  subst he
  exact ⟨_, rfl, _, _, _, [], _, [], hW', trodAll_mk1 (shut_bool Tryd.underlying4 _), (trodAll_cons_mk (Below.trod laidOut (by kernel_rfl) (of_decide_eq_true (by kernel_rfl)) k0 bel lt0) (trodAll_cons_mk (Below.trod laidOut (by kernel_rfl) (of_decide_eq_true (by kernel_rfl)) k1 bel lt1) trodAll_mk0)), rfl, bel.frame _, fun h => by cases h⟩
/-- A world for the witness: the settled one, the tables holding what their initialisers lay. -/
noncomputable def laidWorld (os : Os) : World :=
  { World.holding Tryd.prog os ⟨#[], #[], []⟩ with heap := ((World.holding Tryd.prog os ⟨#[], #[], []⟩).heap).modify 1 fun
      | .cells _ t frozen => .cells #[.string ⟨#[73]⟩, .bool false, .bool false, .bool false, .bool false, .int .i64 0, .int .i64 0, .string ⟨#[83]⟩, .bool true, .bool false, .bool false, .bool false, .int .i64 0, .int .i64 1, .string ⟨#[69]⟩, .bool true, .bool true, .bool false, .bool true, .int .i64 4, .int .i64 1, .string ⟨#[79]⟩, .bool true, .bool false, .bool true, .bool true, .int .i64 0, .int .i64 3, .string ⟨#[77]⟩, .bool true, .bool true, .bool true, .bool true, .int .i64 4, .int .i64 3] t frozen
      | o => o }
theorem laid_met (os : Os) : laidMet Tryd.prog Rows.cacheNilRow.laid ((laidWorld os).forCall (fun _ _ => 0) ⟨#[], #[.agg #[.int .i64 0, .int .i64 0, .int .i64 0, .int .i64 0, .int .i64 0, .bool false, .int .i64 0, .int .i64 0, .int .i64 0, .int .i64 0, .int .i64 0, .int .i64 0, .int .i64 0, .bool false, .int .i64 0], .agg #[.int .i64 0, .int .i64 0, .int .i64 0, .int .i64 0, .int .i64 0, .int .i64 0, .int .i64 0]], []⟩).memory :=
  laidMet_of_run' 8 (by kernel_rfl) (by kernel_rfl)
theorem reads (os : Os) {H : Type} (enc : TypeId × Value → H) : ∃ places, DataW.whole enc Tryd.prog ((laidWorld os).forCall (fun _ _ => 0) ⟨#[], #[.agg #[.int .i64 0, .int .i64 0, .int .i64 0, .int .i64 0, .int .i64 0, .bool false, .int .i64 0, .int .i64 0, .int .i64 0, .int .i64 0, .int .i64 0, .int .i64 0, .int .i64 0, .bool false, .int .i64 0], .agg #[.int .i64 0, .int .i64 0, .int .i64 0, .int .i64 0, .int .i64 0, .int .i64 0, .int .i64 0]], []⟩).memory Tryd.f7.params.toList Rows.cacheNilSpec.vars false (#[.agg #[.int .i64 0, .int .i64 0, .int .i64 0, .int .i64 0, .int .i64 0, .bool false, .int .i64 0, .int .i64 0, .int .i64 0, .int .i64 0, .int .i64 0, .int .i64 0, .int .i64 0, .bool false, .int .i64 0], .agg #[.int .i64 0, .int .i64 0, .int .i64 0, .int .i64 0, .int .i64 0, .int .i64 0, .int .i64 0]] : Array Value).toList 8 = some ([.agg [.lit (.int .i64 0), .lit (.int .i64 0), .lit (.int .i64 0), .lit (.int .i64 0), .lit (.int .i64 0), .lit (.bool false), .agg [.lit (.int .i64 0), .lit (.int .i64 0), .lit (.int .i64 0), .lit (.int .i64 0), .lit (.int .i64 0), .agg [.lit (.int .i64 0), .lit (.int .i64 0)], .lit (.bool false), .lit (.int .i64 0)]], .agg [.lit (.int .i64 0), .lit (.int .i64 0), .lit (.int .i64 0), .lit (.int .i64 0), .lit (.int .i64 0), .lit (.int .i64 0), .lit (.int .i64 0)]], [], places) :=
  ⟨[], by kernel_rfl⟩
set_option maxRecDepth 100000 in
theorem lifted (os : Os) (started : os.Started) (H : Type) (enc : TypeId × Value → H) (F : Stop.Interp) :
    ReturnsInHanded {} Tryd.checked os 7 .any ((OpenSpec.ofChange Rows.cacheNilSpec).preRow enc Tryd.prog Tryd.f7 Rows.cacheNilRow.domain false Rows.cacheNilRow.laid) (((OpenSpec.ofChange Rows.cacheNilSpec).at F).post enc Tryd.prog Tryd.f7 false true false false) := by
  obtain ⟨places, hx⟩ := reads os enc
  refine returnsInHanded_of_row (C := Tryd.checked) (s := OpenSpec.ofChange Rows.cacheNilSpec) own started (by kernel_rfl) Tryd.func7
    (witness_row_at (enc := enc) (C := Tryd.checked) false (laidWorld os) #[.agg #[.int .i64 0, .int .i64 0, .int .i64 0, .int .i64 0, .int .i64 0, .bool false, .int .i64 0, .int .i64 0, .int .i64 0, .int .i64 0, .int .i64 0, .int .i64 0, .int .i64 0, .bool false, .int .i64 0], .agg #[.int .i64 0, .int .i64 0, .int .i64 0, .int .i64 0, .int .i64 0, .int .i64 0, .int .i64 0]] rfl (by kernel_rfl) (by kernel_rfl) (by kernel_rfl)
      (OpenSpec.preRow_of_cond 8 hx (by kernel_rfl) (fun k hk => by cases hk) (by kernel_rfl) (laid_met os))) ?_
  intro W base args ds gs before hval hW _ _ _ hL _ _
  exact contract H enc W base args ds gs before hval hW hL
theorem said : Rows.CacheNilSaid :=
  OpenClaim.holds_of_cond 7 Tryd.f7 rfl rfl rfl rfl rfl rfl rfl ⟨rfl, rfl, rfl, rfl, rfl⟩ rfl rfl rfl rfl rfl (by kernel_rfl) Tryd.func7 (by kernel_rfl)
    (of_decide_eq_true (by kernel_rfl)) (by unfold Func.isWrapper; first | (rw [if_pos (by decide +kernel)]; kernel_rfl) | (rw [if_neg (by decide +kernel)]; exact ⟨rfl, rfl⟩))
    (fun os started H enc _ F => by rw [OpenClaim.pre_eq_preRow]; exact lifted os started H enc F)
/-- No parameter wants a stand-in; the program's own looks are off. -/
theorem plain (f : FuncId) (fn : Func) (hf : Tryd.pinned.checked.prog.funcNamed "donjon/donjonlaw13.CacheNil" = some f) (hfn : Tryd.pinned.checked.prog.funcs[f]? = some fn) :
    false = Tryd.pinned.checked.prog.looks [] ∧ ∀ (j : Nat) t, fn.params[j]? = some t → Tryd.pinned.checked.prog.wantsStandIn t = false := by
  obtain rfl : f = 7 := Option.some.inj ((show Tryd.prog.funcNamed "donjon/donjonlaw13.CacheNil" = some 7 by kernel_rfl).symm.trans hf) |>.symm
  obtain rfl : fn = Tryd.f7 := (Option.some.inj (Tryd.func7.symm.trans hfn)).symm
  refine ⟨by kernel_rfl, fun j t ht => ?_⟩
  rw [Tryd.params7] at ht
  have hm := Array.mem_of_getElem? ht
  have all : (#[47, 23] : Array Nat).all (fun t => !Tryd.pinned.checked.prog.wantsStandIn t) = true := by kernel_rfl
  have := Array.all_eq_true_iff_forall_mem.1 all t hm
  simpa using this
theorem card : Rows.CacheNilCardSaid :=
  Claim7.holds_tied_plain_at .later [] _ _ _ _ said (fun _ h => by cases h) (by kernel_rfl) (fun _ h => by cases h) cacheNil_row_tie rfl ⟨rfl, rfl⟩ (by kernel_rfl) rfl plain (by kernel_rfl)
#print axioms card
end Go.Proofs.YtpabnkbpklggnaaDoor.cacheNilCard
