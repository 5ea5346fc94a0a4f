/- A call of four numbers, opened. -/
import Derived.WalkKit
import Derived.Carry
import Derived.Test.YtfikiophfphmbaaRows
import Derived.Deep.Slices
import Derived.Lib.SmallJoins
import Derived.Deep.Fields
import Derived.ChangeSame
import Derived.OpenShut
namespace Go.Proofs.Ytfikiophfphmbaa
open Go.Joins Go.ChangeShapes Go.WideShapes Go.RowKit Go.Deep
set_option linter.unusedVariables false
set_option maxRecDepth 100000
theorem op_of {H : Type} {enc : TypeId × Value → H} {W : World} {base b0 : Nat} {spare : Nat → Bool} {held : Bool} {r : Reach} {v : Value} {d : DataW H} {p : List MemPlace} (hv : Value.okWide Try.prog W r b0 58 v) (h : DataW.Trod enc Try.prog W base spare held 58 v d p) :
    ∃ a b c d : Int, v = .agg #[.int .i64 a, .int .i64 b, .int .i64 c, .int .i64 d] := by
  obtain ⟨cs, rfl, hsz⟩ := okWide_struct Try.underlying58 hv
  obtain ⟨fuel, hf⟩ := h
  obtain ⟨xs, n, _, hx, hcl, hlen, hg⟩ := DataW.trod_struct Try.underlying58 hf
  obtain ⟨l⟩ := cs
  have hC : Try.prog.cellsOf 58 = 4 := by kernel_rfl
  rw [hC] at hcl
  have c3 : Try.prog.cellsOf 3 = 1 := by kernel_rfl
  simp [Value.cells] at hcl hg
  match l, hcl, xs, hlen with
  | [u0, u1, u2, u3], _, [y0, y1, y2, y3], _ =>
    have g0 := hg 0 _ rfl
    have g1 := hg 1 _ rfl
    have g2 := hg 2 _ rfl
    have g3 := hg 3 _ rfl
    simp [c3] at g0 g1 g2 g3
    obtain ⟨a, e0, rfl, -⟩ := DataW.trod_int Try.underlying3 g0
    obtain ⟨b, e1, rfl, -⟩ := DataW.trod_int Try.underlying3 g1
    obtain ⟨c, e2, rfl, -⟩ := DataW.trod_int Try.underlying3 g2
    obtain ⟨d, e3, rfl, -⟩ := DataW.trod_int Try.underlying3 g3
    simp at e0 e1 e2 e3
    exact ⟨a, b, c, d, by rw [e0, e1, e2, e3]⟩
end Go.Proofs.Ytfikiophfphmbaa
