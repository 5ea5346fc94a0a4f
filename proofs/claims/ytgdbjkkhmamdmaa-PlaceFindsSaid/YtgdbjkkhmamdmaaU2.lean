/- A pair of integers ([2]int), by value, as an argument: opened. -/
import Derived.Test.YtgdbjkkhmamdmaaU
namespace Go.Proofs.Ytgdbjkkhmamdmaa
open Go.RowKit Go.WideShapes Go.ChangeShapes Go.ChangeAt Go.Joins Go.Deep
section
variable {H : Type} {enc : TypeId × Value → H} {P : Program} {w : World} {base : Nat} {spare : Nat → Bool} {held : Bool}
theorem okWide_array {r : Reach} {b0 n : Nat} {t e : TypeId} {v : Value} (ht : P.underlying t = some (.array n e)) (h : Value.okWide P w r b0 t v) : ∃ cs, v = .agg cs ∧ cs.size = P.cellsOf t := by
  simp only [Value.okWide, ht] at h
  obtain ⟨cs, h1, h2, _⟩ := h
  exact ⟨cs, h1, h2⟩
theorem list2 {α : Type} {cs : List α} (h : cs.length = 2) : ∃ c0 c1, cs = [c0, c1] := by
  match cs, h with
  | [c0, c1], _ => exact ⟨c0, c1, rfl⟩
/-- Two integers of int: the value written out; no places. -/
theorem open_pair {r : Reach} {b0 : Nat} {t i : TypeId} {v : Value} {d : DataW H} {p : List MemPlace} (hs : P.underlying t = some (.array 2 i)) (hone : P.cellsOf i = 1) (hC : P.cellsOf t = 2)
    (hi : P.underlying i = some (.int .i64)) (hv : Value.okWide P w r b0 t v) (h : DataW.Trod enc P w base spare held t v d p) :
    ∃ a b : Int, v = .agg #[.int .i64 a, .int .i64 b] ∧ p = [] ∧ (Lit.int .i64 a).wf = true ∧ (Lit.int .i64 b).wf = true := by
  obtain ⟨cs, rfl, hsz⟩ := okWide_array hs hv
  obtain ⟨c0, c1, rfl⟩ := array2 (hsz.trans hC)
  obtain ⟨fuel, hf⟩ := h
  obtain ⟨xs, n, _, hx, _, hlen, hg⟩ := DataW.trod_array hs hf
  obtain ⟨y0, y1, rfl⟩ := list2 hlen
  have h0 := hg 0 (by omega)
  have h1 := hg 1 (by omega)
  simp [Value.cells, hone] at h0 h1
  obtain ⟨x0, q0, rfl, z0⟩ := DataW.trod_int hi h0
  obtain ⟨x1, q1, rfl, z1⟩ := DataW.trod_int hi h1
  simp at q0 q1
  subst q0 q1
  simp only [Prod.mk.injEq] at hx
  exact ⟨x0, x1, rfl, by simpa using hx.2, z0, z1⟩
end
end Go.Proofs.Ytgdbjkkhmamdmaa
