/- Where a core may come to. No condition. -/
import Derived.Test.YtfiangiajhdhcaaDoorCL3
namespace Go.Proofs.YtfiangiajhdhcaaDoor
open Go.RowKit
set_option linter.unusedVariables false
set_option maxRecDepth 100000

/-! Where a core may come to. -/
/-- What holds at each leaf, for what is known there. -/
noncomputable def LTree.each (k : Asm → SV → List SBlk → Bool) : LTree → Asm → Bool
  | .leaf v bs, A => k A v bs
  | .node op a b t f, A => t.each k (A.add op a b true) && f.each k (A.add op a b false)
theorem LTree.each_ok {k : Asm → SV → List SBlk → Bool} {I : Nat → Int} : ∀ {t : LTree} {A : Asm}, A.Holds I → t.each k A = true → ∃ A' : Asm, A'.Holds I ∧ k A' (t.at I).1 (t.at I).2 = true
  | .leaf v bs, A, hA, h => ⟨A, hA, h⟩
  | .node op a b t f, A, hA, h => by
    simp only [LTree.each, Bool.and_eq_true] at h
    simp only [LTree.at]
    cases e : cmpD op (a.den I) (b.den I)
    · exact LTree.each_ok (hA.add e) h.2
    · exact LTree.each_ok (hA.add e) h.1
noncomputable def yes (A : Asm) (op : BinOp) (a b : IE) : Bool := match cmpI A op a b with | .ok r => r | .no _ => false
theorem yes_ok {A : Asm} {I : Nat → Int} (hA : A.Holds I) {op : BinOp} {a b : IE} (h : yes A op a b = true) : cmpD op (a.den I) (b.den I) = true := by
  unfold yes at h
  split at h
  · rename_i r hr; subst h; exact cmpI_ok hA hr
  · cases h
/-- The place is one of the program's, or its end; where nothing is done, none is to be done, or it asks someone. -/
noncomputable def leafP (A : Asm) (v : SV) (bs : List SBlk) : Bool :=
  match v, bs with
  | .tup [_, .bool d], [.cells [_, _, _, _, .int _ e, _, _, _, _] _, _] => (yes A .geq e (.lit 0) && yes A .leq e (.at 8)) && (d || (yes A .geq (.at 4) (.at 8) || ((yes A .neq (.at 9) (.lit 1) && (yes A .neq (.at 9) (.lit 2) && yes A .neq (.at 9) (.lit 6))) && (yes A .neq (.at 9) (.lit 7) && (yes A .neq (.at 9) (.lit 9) && yes A .neq (.at 9) (.lit 10))))))
  | _, _ => false
theorem pl1 : tl1.each leafP { cmps := [(.leq, .at 4, .at 8, true)] ++ asmL1.cmps } = true := by kernel_rfl
theorem pl2_00 : tl2_00.each leafP { cmps := [(.leq, .at 4, .at 8, true)] ++ asmL2_00.cmps } = true := by kernel_rfl
theorem pl2_01 : tl2_01.each leafP { cmps := [(.leq, .at 4, .at 8, true)] ++ asmL2_01.cmps } = true := by kernel_rfl
theorem pl2_02 : tl2_02.each leafP { cmps := [(.leq, .at 4, .at 8, true)] ++ asmL2_02.cmps } = true := by kernel_rfl
theorem pl2_03 : tl2_03.each leafP { cmps := [(.leq, .at 4, .at 8, true)] ++ asmL2_03.cmps } = true := by kernel_rfl
theorem pl2_10 : tl2_10.each leafP { cmps := [(.leq, .at 4, .at 8, true)] ++ asmL2_10.cmps } = true := by kernel_rfl
theorem pl2_11 : tl2_11.each leafP { cmps := [(.leq, .at 4, .at 8, true)] ++ asmL2_11.cmps } = true := by kernel_rfl
theorem pl2_12 : tl2_12.each leafP { cmps := [(.leq, .at 4, .at 8, true)] ++ asmL2_12.cmps } = true := by kernel_rfl
theorem pl2_13 : tl2_13.each leafP { cmps := [(.leq, .at 4, .at 8, true)] ++ asmL2_13.cmps } = true := by kernel_rfl
theorem pl2_20 : tl2_20.each leafP { cmps := [(.leq, .at 4, .at 8, true)] ++ asmL2_20.cmps } = true := by kernel_rfl
theorem pl2_21 : tl2_21.each leafP { cmps := [(.leq, .at 4, .at 8, true)] ++ asmL2_21.cmps } = true := by kernel_rfl
theorem pl2_22 : tl2_22.each leafP { cmps := [(.leq, .at 4, .at 8, true)] ++ asmL2_22.cmps } = true := by kernel_rfl
theorem pl2_23 : tl2_23.each leafP { cmps := [(.leq, .at 4, .at 8, true)] ++ asmL2_23.cmps } = true := by kernel_rfl
theorem pl2_30 : tl2_30.each leafP { cmps := [(.leq, .at 4, .at 8, true)] ++ asmL2_30.cmps } = true := by kernel_rfl
theorem pl2_31 : tl2_31.each leafP { cmps := [(.leq, .at 4, .at 8, true)] ++ asmL2_31.cmps } = true := by kernel_rfl
theorem pl2_32 : tl2_32.each leafP { cmps := [(.leq, .at 4, .at 8, true)] ++ asmL2_32.cmps } = true := by kernel_rfl
theorem pl2_33 : tl2_33.each leafP { cmps := [(.leq, .at 4, .at 8, true)] ++ asmL2_33.cmps } = true := by kernel_rfl
theorem pl6 : tl6.each leafP { cmps := [(.leq, .at 4, .at 8, true)] ++ asmL6.cmps } = true := by kernel_rfl
theorem pl7 : tl7.each leafP { cmps := [(.leq, .at 4, .at 8, true)] ++ asmL7.cmps } = true := by kernel_rfl
theorem pl9 : tl9.each leafP { cmps := [(.leq, .at 4, .at 8, true), (.leq, .at 10, .at 8, true)] ++ asmL9.cmps } = true := by kernel_rfl
theorem pl10 : tl10.each leafP { cmps := [(.leq, .at 4, .at 8, true), (.leq, .at 11, .at 8, true)] ++ asmL10.cmps } = true := by kernel_rfl
theorem pl0 : tl0.each leafP { cmps := [(.leq, .at 4, .at 8, true)] ++ asmL0.cmps } = true := by kernel_rfl
end Go.Proofs.YtfiangiajhdhcaaDoor
