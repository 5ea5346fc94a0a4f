/- Which letters an outcome of Local hangs on. No condition. -/
import Derived.Test.YtfiangiajhdhcaaDoorCL0
namespace Go.Proofs.YtfiangiajhdhcaaDoor
open Go.RowKit
set_option linter.unusedVariables false
set_option maxRecDepth 100000

/-! Which letters an outcome hangs on. -/
noncomputable def IE.under (n : Nat) : IE → Bool
  | .lit _ => true
  | .at i => decide (i < n)
  | .bin _ _ a b => a.under n && b.under n
  | .conv _ a => a.under n
theorem IE.under_ok {n : Nat} {I J : Nat → Int} (h : ∀ i, i < n → I i = J i) : ∀ {e : IE}, e.under n = true → e.den I = e.den J
  | .lit _, _ => rfl
  | .at i, k => h i (of_decide_eq_true k)
  | .bin _ _ a b, k => by
    simp only [IE.under, Bool.and_eq_true] at k
    simp only [IE.den, IE.under_ok h k.1, IE.under_ok h k.2]
  | .conv _ a, k => by
    simp only [IE.under] at k
    simp only [IE.den, IE.under_ok h k]
noncomputable def SV.under (n : Nat) : SV → Bool
  | .int _ e => e.under n
  | .side e => e.under n
  | .bool _ => true
  | .asl .. => true
  | _ => false
noncomputable def outUnder (n : Nat) (v : SV) (bs : List SBlk) : Bool :=
  match v, bs with
  | .tup [.agg l, b], [.cells m _, _] => (l.all (SV.under n) && b.under n) && m.all (SV.under n)
  | _, _ => false
noncomputable def blk7 : List SBlk → Bool
  | [.cells [_, _, _, _, _, _, _, .int .i64 (.at 7), _] _, _] => true
  | _ => false
noncomputable def LTree.under (n : Nat) : LTree → Bool
  | .leaf _ _ => true
  | .node _ a b t f => (a.under n && b.under n) && (t.under n && f.under n)
theorem LTree.under_ok {n : Nat} {I J : Nat → Int} (h : ∀ i, i < n → I i = J i) : ∀ {t : LTree}, t.under n = true → t.at I = t.at J
  | .leaf _ _, _ => rfl
  | .node op a b t f, k => by
    simp only [LTree.under, Bool.and_eq_true] at k
    obtain ⟨⟨k1, k2⟩, k3, k4⟩ := k
    simp only [LTree.at, IE.under_ok h k1, IE.under_ok h k2]
    cases cmpD op (a.den J) (b.den J)
    · exact LTree.under_ok h k4
    · exact LTree.under_ok h k3
theorem sb1 : (tl1.all (fun v bs => outUnder 25 v bs && blk7 bs) && tl1.under 25) = true := by kernel_rfl
theorem sb2_00 : (tl2_00.all (fun v bs => outUnder 25 v bs && blk7 bs) && tl2_00.under 25) = true := by kernel_rfl
theorem sb2_01 : (tl2_01.all (fun v bs => outUnder 25 v bs && blk7 bs) && tl2_01.under 25) = true := by kernel_rfl
theorem sb2_02 : (tl2_02.all (fun v bs => outUnder 25 v bs && blk7 bs) && tl2_02.under 25) = true := by kernel_rfl
theorem sb2_03 : (tl2_03.all (fun v bs => outUnder 25 v bs && blk7 bs) && tl2_03.under 25) = true := by kernel_rfl
theorem sb2_10 : (tl2_10.all (fun v bs => outUnder 25 v bs && blk7 bs) && tl2_10.under 25) = true := by kernel_rfl
theorem sb2_11 : (tl2_11.all (fun v bs => outUnder 25 v bs && blk7 bs) && tl2_11.under 25) = true := by kernel_rfl
theorem sb2_12 : (tl2_12.all (fun v bs => outUnder 25 v bs && blk7 bs) && tl2_12.under 25) = true := by kernel_rfl
theorem sb2_13 : (tl2_13.all (fun v bs => outUnder 25 v bs && blk7 bs) && tl2_13.under 25) = true := by kernel_rfl
theorem sb2_20 : (tl2_20.all (fun v bs => outUnder 25 v bs && blk7 bs) && tl2_20.under 25) = true := by kernel_rfl
theorem sb2_21 : (tl2_21.all (fun v bs => outUnder 25 v bs && blk7 bs) && tl2_21.under 25) = true := by kernel_rfl
theorem sb2_22 : (tl2_22.all (fun v bs => outUnder 25 v bs && blk7 bs) && tl2_22.under 25) = true := by kernel_rfl
theorem sb2_23 : (tl2_23.all (fun v bs => outUnder 25 v bs && blk7 bs) && tl2_23.under 25) = true := by kernel_rfl
theorem sb2_30 : (tl2_30.all (fun v bs => outUnder 25 v bs && blk7 bs) && tl2_30.under 25) = true := by kernel_rfl
theorem sb2_31 : (tl2_31.all (fun v bs => outUnder 25 v bs && blk7 bs) && tl2_31.under 25) = true := by kernel_rfl
theorem sb2_32 : (tl2_32.all (fun v bs => outUnder 25 v bs && blk7 bs) && tl2_32.under 25) = true := by kernel_rfl
theorem sb2_33 : (tl2_33.all (fun v bs => outUnder 25 v bs && blk7 bs) && tl2_33.under 25) = true := by kernel_rfl
theorem sb6 : (tl6.all (fun v bs => outUnder 25 v bs && blk7 bs) && tl6.under 25) = true := by kernel_rfl
theorem sb7 : (tl7.all (fun v bs => outUnder 25 v bs && blk7 bs) && tl7.under 25) = true := by kernel_rfl
theorem sb9 : (tl9.all (fun v bs => outUnder 25 v bs && blk7 bs) && tl9.under 25) = true := by kernel_rfl
theorem sb10 : (tl10.all (fun v bs => outUnder 25 v bs && blk7 bs) && tl10.under 25) = true := by kernel_rfl
theorem sb0 : (tl0.all (fun v bs => outUnder 25 v bs && blk7 bs) && tl0.under 25) = true := by kernel_rfl
end Go.Proofs.YtfiangiajhdhcaaDoor
