/- Arguments opened. -/
import Derived.Test.YtfikiophfphmbaaK
import Derived.WalkKit
import Derived.WalkSpells
import Derived.ProofKit
import Derived.Outline
import Derived.Handy
import Derived.RowKit3
import Derived.BigQuiet
import Derived.Deep.QuietTactic
import Derived.Deep.RegionHeld3
import Derived.Deep.Draws
import Derived.Deep.RegionLaw
import Derived.RegionTactic
import Derived.BigRegion
import Derived.IntWalk
import Derived.LoopTactic
import Derived.OwnWalk
import Derived.Laws.AppendOwn
import Derived.Laws.OwnMore
import Derived.Laws.MakeOwn
import Derived.Laws.Pointers
import Derived.Maps.AppendAt
import Derived.Deep.AppendLies
import Derived.Below
import Derived.Deep.Slices
import Derived.Lib.SmallJoins
import Derived.Deep.Fields
import Derived.ChangeSame
import Derived.OpenShut
namespace Go.Proofs.Ytfikiophfphmbaa
open Go.Joins Go.ChangeShapes Go.WideShapes Go.Deep Go.RowKit
set_option linter.unusedVariables false
set_option maxRecDepth 100000

section
variable {H : Type} {enc : TypeId × Value → H} {P : Program} {w : World} {base : Nat} {spare : Nat → Bool} {held : Bool}
theorem okWide_array {r : Reach} {b0 n : Nat} {t e : TypeId} {v : Value} (ht : P.underlying t = some (.array n e)) (h : Value.okWide P w r b0 t v) : ∃ cs, v = .agg cs ∧ cs.size = P.cellsOf t := by
  simp only [Value.okWide, ht] at h
  obtain ⟨cs, h1, h2, _⟩ := h
  exact ⟨cs, h1, h2⟩
theorem trod_pair {t i : TypeId} {fuel : Nat} {cs : List Value} {x : DataW H × List MemPlace} (hs : P.underlying t = some (.array 2 i)) (hone : P.cellsOf i = 1) (hC : P.cellsOf t = 2) (hi : P.underlying i = some (.int .i64)) (hf : DataW.trod enc P w base spare held fuel t cs = some x) :
    ∃ a b : Int, cs = [.int .i64 a, .int .i64 b] := by
  obtain ⟨xs, n, _, hx, hcl, hlen, hg⟩ := DataW.trod_array hs hf
  rw [hC] at hcl
  match cs, hcl, xs, hlen with
  | [c0, c1], _, [y0, y1], _ =>
    have h0 := hg 0 (by omega)
    have h1 := hg 1 (by omega)
    simp [hone] at h0 h1
    obtain ⟨x0, q0, rfl, z0⟩ := DataW.trod_int hi h0
    obtain ⟨x1, q1, rfl, z1⟩ := DataW.trod_int hi h1
    simp at q0 q1
    exact ⟨x0, x1, by rw [q0, q1]⟩
end
theorem op_trod {H : Type} {enc : TypeId × Value → H} {W : World} {base : Nat} {spare : Nat → Bool} {held : Bool} {fuel : Nat} {cs : List Value} {x : DataW H × List MemPlace} (h : DataW.trod enc Try.prog W base spare held fuel 58 cs = some x) : ∃ a b c d : Int, cs = [.int .i64 a, .int .i64 b, .int .i64 c, .int .i64 d] := by
  obtain ⟨xs, n, _, hx, hcl, hlen, hg⟩ := DataW.trod_struct Try.underlying58 h
  have hC : Try.prog.cellsOf 58 = 4 := by kernel_rfl
  rw [hC] at hcl
  have c3 : Try.prog.cellsOf 3 = 1 := by kernel_rfl
  match cs, hcl, xs, hlen with
  | [u0, u1, u2, u3], _, [y0, y1, y2, y3], _ =>
    have g0 := hg 0 _ rfl
    have g1 := hg 1 _ rfl
    have g2 := hg 2 _ rfl
    have g3 := hg 3 _ rfl
    simp [c3] at g0 g1 g2 g3
    obtain ⟨a, e0, rfl, -⟩ := DataW.trod_int Try.underlying3 g0
    obtain ⟨b, e1, rfl, -⟩ := DataW.trod_int Try.underlying3 g1
    obtain ⟨c, e2, rfl, -⟩ := DataW.trod_int Try.underlying3 g2
    obtain ⟨d, e3, rfl, -⟩ := DataW.trod_int Try.underlying3 g3
    simp at e0 e1 e2 e3
    exact ⟨a, b, c, d, by rw [e0, e1, e2, e3]⟩
def OpsIn (w : World) (av : Option Addr) (L : Nat) (A B C D : Nat → Int) : Prop := L = 0 ∨ ∃ b off, av = some ⟨b, off, none⟩ ∧ b < w.heap.size ∧ ∀ i, i < L → w.cell? ⟨b, off + i * 4, none⟩ = some (.int .i64 (A i)) ∧ w.cell? ⟨b, off + i * 4 + 1, none⟩ = some (.int .i64 (B i)) ∧ w.cell? ⟨b, off + i * 4 + 2, none⟩ = some (.int .i64 (C i)) ∧ w.cell? ⟨b, off + i * 4 + 3, none⟩ = some (.int .i64 (D i))
theorem pair_of {H : Type} {enc : TypeId × Value → H} {W : World} {base b0 : Nat} {spare : Nat → Bool} {held : Bool} {r : Reach} {v : Value} {d : DataW H} {p : List MemPlace} (hv : Value.okWide Try.prog W r b0 22 v) (h : DataW.Trod enc Try.prog W base spare held 22 v d p) :
    ∃ a b : Int, v = .agg #[.int .i64 a, .int .i64 b] := by
  have hu : Try.prog.underlying 22 = some (.array 2 3) := by kernel_rfl
  obtain ⟨cs, rfl, hsz⟩ := okWide_array hu hv
  obtain ⟨fuel, hf⟩ := h
  obtain ⟨a, b, he⟩ := trod_pair hu (by kernel_rfl) (by kernel_rfl) Try.underlying3 hf
  obtain ⟨l⟩ := cs
  simp [Value.cells] at he
  exact ⟨a, b, by rw [he]⟩
theorem ops_of {H : Type} {enc : TypeId × Value → H} {W : World} {base b0 : Nat} {spare : Nat → Bool} {held : Bool} {r : Reach} {v : Value} {d : DataW H} {p : List MemPlace} (hv : Value.okWide Try.prog W r b0 51 v) (h : DataW.Trod enc Try.prog W base spare held 51 v d p) :
    ∃ av L c, v = .slice av L c ∧ L ≤ maxLen ∧ ∃ A B C D, OpsIn W av L A B C D := by
  obtain ⟨a0, len0, cap0, rfl⟩ := okWide_slice Try.underlying51 hv
  obtain ⟨fuel, hf⟩ := h
  rcases open_slice Try.underlying51 hf with ⟨hcs, _⟩ | ⟨a, len, cap, m, n, D, Pl, hcs, hb, hl, hm, hmm, hx, hi⟩
  · simp [Value.cells] at hcs
    obtain ⟨rfl, rfl, rfl⟩ := hcs
    exact ⟨none, 0, 0, rfl, by unfold maxLen; omega, fun _ => 0, fun _ => 0, fun _ => 0, fun _ => 0, .inl rfl⟩
  · simp [Value.cells] at hcs
    obtain ⟨rfl, rfl, rfl⟩ := hcs
    have hC : Try.prog.cellsOf 58 = 4 := by kernel_rfl
    rw [hC] at hi
    refine ⟨_, _, _, rfl, by omega, ?_⟩
    by_cases h0 : len0 = 0
    · exact ⟨fun _ => 0, fun _ => 0, fun _ => 0, fun _ => 0, .inl h0⟩
    · have hle : len0 ≤ m := by rw [hmm]; split <;> omega
      have key : ∀ i, i < len0 → ∀ t, t < 4 → ∃ x, W.cell? ((a.add (i * 4)).add t) = some (.int .i64 x) := by
        intro i hil t ht
        obtain ⟨cs', hc, hh⟩ := hi i (by omega)
        obtain ⟨x0, x1, x2, x3, rfl⟩ := op_trod hh
        obtain ⟨_, _, hat⟩ := World.cells?_some hc
        have t0 := hat t (by omega)
        have : t = 0 ∨ t = 1 ∨ t = 2 ∨ t = 3 := by omega
        rcases this with rfl | rfl | rfl | rfl <;> exact ⟨_, t0⟩
      obtain ⟨x0, k0⟩ := key 0 (by omega) 0 (by omega)
      obtain ⟨b, off, spot⟩ := a
      have hspot : spot = none := by simpa [Addr.add] using World.cell?_spot k0
      subst hspot
      have hbl := World.block_lt_of_cell? W _ k0
      have fin : ∀ t, t < 4 → ∀ i, i < len0 → W.cell? ⟨b, off + i * 4 + t, none⟩ = some (.int .i64 (intOf ((W.cell? ⟨b, off + i * 4 + t, none⟩).getD (.bool false)))) := by
        intro t ht i hil
        obtain ⟨x, hx⟩ := key i hil t ht
        rw [add_plain, add_plain] at hx
        simp [hx, intOf]
      exact ⟨_, _, _, _, .inr ⟨b, off, rfl, by simpa [Addr.add] using hbl, fun i hil => ⟨fin 0 (by omega) i hil, fin 1 (by omega) i hil, fin 2 (by omega) i hil, fin 3 (by omega) i hil⟩⟩⟩
end Go.Proofs.Ytfikiophfphmbaa
