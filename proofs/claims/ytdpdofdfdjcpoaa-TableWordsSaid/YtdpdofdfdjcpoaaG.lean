/- A call of two fields, one of them a struct of two, opened; a slice of such. -/
import Derived.Deep.Slices
import Derived.Deep.Fields
import Derived.ChangeSame
import Derived.Lib.SmallJoins
namespace Go.Proofs.Ytdpdofdfdjcpoaa
open Go.Joins Go.ChangeShapes Go.WideShapes Go.RowKit Go.Deep
section
variable {H : Type} {enc : TypeId × Value → H} {P : Program} {w : World} {base : Nat} {spare : Nat → Bool} {held : Bool}
theorem trod_op {t : TypeId} {f0 f1 g0 g1 : Field} {fuel : Nat} {cs : List Value} {x : DataW H × List MemPlace} (hs : P.underlying t = some (.struct #[f0, f1])) (hx : P.underlying f1.type = some (.struct #[g0, g1]))
    (o0 : f0.offset = 0) (c0 : P.cellsOf f0.type = 1) (o1 : f1.offset = 1) (c1 : P.cellsOf f1.type = 2) (p0 : g0.offset = 0) (d0 : P.cellsOf g0.type = 1) (p1 : g1.offset = 1) (d1 : P.cellsOf g1.type = 1)
    (hi : P.underlying f0.type = some (.int .i64)) (hj : P.underlying g0.type = some (.int .i64)) (hb : P.underlying g1.type = some .bool) (hC : P.cellsOf t = 3) (h : DataW.trod enc P w base spare held fuel t cs = some x) :
    ∃ a b c, cs = [.int .i64 a, .int .i64 b, .bool c] ∧ x = (.agg [.lit (.int .i64 a), .agg [.lit (.int .i64 b), .lit (.bool c)]], []) := by
  obtain ⟨y0, y1, n, rfl, hl, h0, h1⟩ := trod_struct2 hs h
  rw [hC] at hl
  rw [o0, c0] at h0
  rw [o1, c1] at h1
  match cs, hl with
  | [u, v, z], _ =>
    obtain ⟨a, e0, rfl, -⟩ := DataW.trod_int hi h0
    obtain ⟨q0, q1, m, rfl, -, g0', g1'⟩ := trod_struct2 hx h1
    rw [p0, d0] at g0'
    rw [p1, d1] at g1'
    obtain ⟨b, e1, rfl, -⟩ := DataW.trod_int hj g0'
    obtain ⟨c, e2, rfl⟩ := DataW.trod_bool hb g1'
    simp at e0 e1 e2
    exact ⟨a, b, c, by simp [e0, e1, e2], by simp⟩
end
end Go.Proofs.Ytdpdofdfdjcpoaa
