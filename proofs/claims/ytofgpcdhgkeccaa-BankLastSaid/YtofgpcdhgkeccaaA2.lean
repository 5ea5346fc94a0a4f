/- Arguments opened. -/
import Derived.Test.YtofgpcdhgkeccaaA1
import Derived.WalkKit
import Derived.WalkSpells
import Derived.ProofKit
import Derived.Outline
import Derived.Handy
import Derived.RowKit3
import Derived.BigQuiet
import Derived.Deep.QuietTactic
import Derived.Deep.RegionHeld3
import Derived.Deep.Draws
import Derived.Deep.RegionLaw
import Derived.RegionTactic
import Derived.BigRegion
import Derived.IntWalk
import Derived.LoopTactic
import Derived.OwnWalk
import Derived.Laws.AppendOwn
import Derived.Laws.OwnMore
import Derived.Laws.MakeOwn
import Derived.Laws.Pointers
import Derived.Maps.AppendAt
import Derived.Deep.AppendLies
import Derived.Below
import Derived.Deep.Slices
import Derived.Lib.SmallJoins
import Derived.Deep.Fields
import Derived.ChangeSame
import Derived.OpenShut
namespace Go.Proofs.Ytofgpcdhgkeccaa
open Go.Joins Go.ChangeShapes Go.WideShapes Go.RowKit Go.Deep
set_option linter.unusedVariables false
set_option maxRecDepth 100000


theorem add_plain (b off n : Nat) : (⟨b, off, none⟩ : Addr).add n = ⟨b, off + n, none⟩ := by
  cases n <;> simp [Addr.add]
section
variable {H : Type} {enc : TypeId × Value → H} {P : Program} {w : World} {base : Nat} {spare : Nat → Bool} {held : Bool}
theorem okWide_array {r : Reach} {b0 n : Nat} {t e : TypeId} {v : Value} (ht : P.underlying t = some (.array n e)) (h : Value.okWide P w r b0 t v) : ∃ cs, v = .agg cs ∧ cs.size = P.cellsOf t := by
  simp only [Value.okWide, ht] at h
  obtain ⟨cs, h1, h2, _⟩ := h
  exact ⟨cs, h1, h2⟩
theorem trod_pair {t i : TypeId} {fuel : Nat} {cs : List Value} {x : DataW H × List MemPlace} (hs : P.underlying t = some (.array 2 i)) (hone : P.cellsOf i = 1) (hC : P.cellsOf t = 2) (hi : P.underlying i = some (.int .i64)) (hf : DataW.trod enc P w base spare held fuel t cs = some x) :
    ∃ a b : Int, cs = [.int .i64 a, .int .i64 b] := by
  obtain ⟨xs, n, _, hx, hcl, hlen, hg⟩ := DataW.trod_array hs hf
  rw [hC] at hcl
  match cs, hcl, xs, hlen with
  | [c0, c1], _, [y0, y1], _ =>
    have h0 := hg 0 (by omega)
    have h1 := hg 1 (by omega)
    simp [hone] at h0 h1
    obtain ⟨x0, q0, rfl, z0⟩ := DataW.trod_int hi h0
    obtain ⟨x1, q1, rfl, z1⟩ := DataW.trod_int hi h1
    simp at q0 q1
    exact ⟨x0, x1, by rw [q0, q1]⟩
theorem trod_op5 {t i : TypeId} {f0 f1 f2 f3 : Field} {fuel : Nat} {cs : List Value} {x : DataW H × List MemPlace} (hs : P.underlying t = some (.struct #[f0, f1, f2, f3])) (ha : P.underlying f3.type = some (.array 2 i))
    (o0 : f0.offset = 0) (c0 : P.cellsOf f0.type = 1) (o1 : f1.offset = 1) (c1 : P.cellsOf f1.type = 1) (o2 : f2.offset = 2) (c2 : P.cellsOf f2.type = 1) (o3 : f3.offset = 3) (c3 : P.cellsOf f3.type = 2) (ci : P.cellsOf i = 1)
    (h0 : P.underlying f0.type = some (.int .i64)) (h1 : P.underlying f1.type = some (.int .i64)) (h2 : P.underlying f2.type = some (.int .i64)) (hi : P.underlying i = some (.int .i64)) (hC : P.cellsOf t = 5) (h : DataW.trod enc P w base spare held fuel t cs = some x) :
    ∃ a b c d e : Int, cs = [.int .i64 a, .int .i64 b, .int .i64 c, .int .i64 d, .int .i64 e] := by
  obtain ⟨xs, n, _, hx, hcl, hlen, hg⟩ := DataW.trod_struct hs h
  rw [hC] at hcl
  have g0 := hg 0 f0 rfl
  have g1 := hg 1 f1 rfl
  have g2 := hg 2 f2 rfl
  have g3 := hg 3 f3 rfl
  rw [o0, c0] at g0
  rw [o1, c1] at g1
  rw [o2, c2] at g2
  rw [o3, c3] at g3
  match cs, hcl, xs, hlen with
  | [u0, u1, u2, u3, u4], _, [y0, y1, y2, y3], _ =>
    simp at g0 g1 g2 g3
    obtain ⟨a, e0, rfl, -⟩ := DataW.trod_int h0 g0
    obtain ⟨b, e1, rfl, -⟩ := DataW.trod_int h1 g1
    obtain ⟨c, e2, rfl, -⟩ := DataW.trod_int h2 g2
    obtain ⟨d, e, e3⟩ := trod_pair ha ci c3 hi g3
    simp at e0 e1 e2 e3
    exact ⟨a, b, c, d, e, by rw [e0, e1, e2, e3.1, e3.2]⟩
end
/-- Calls that came in. -/
def OpsIn (w : World) (av : Option Addr) (L : Nat) (A B C D E : Nat → Int) : Prop :=
  L = 0 ∨ ∃ b off, av = some ⟨b, off, none⟩ ∧ b < w.heap.size ∧ ∀ i, i < L → w.cell? ⟨b, off + i * 5, none⟩ = some (.int .i64 (A i)) ∧ w.cell? ⟨b, off + i * 5 + 1, none⟩ = some (.int .i64 (B i)) ∧ w.cell? ⟨b, off + i * 5 + 2, none⟩ = some (.int .i64 (C i)) ∧ w.cell? ⟨b, off + i * 5 + 3, none⟩ = some (.int .i64 (D i)) ∧ w.cell? ⟨b, off + i * 5 + 4, none⟩ = some (.int .i64 (E i))
theorem op_trod {H : Type} {enc : TypeId × Value → H} {W : World} {base : Nat} {spare : Nat → Bool} {held : Bool} {fuel : Nat} {cs : List Value} {x : DataW H × List MemPlace} (h : DataW.trod enc Try.prog W base spare held fuel 38 cs = some x) :
    ∃ a b c d e : Int, cs = [.int .i64 a, .int .i64 b, .int .i64 c, .int .i64 d, .int .i64 e] :=
  trod_op5 Try.underlying38 (show Try.prog.underlying 36 = some (.array 2 3) by kernel_rfl) rfl (by kernel_rfl) rfl (by kernel_rfl) rfl (by kernel_rfl) rfl (by kernel_rfl) (by kernel_rfl) Try.underlying3 Try.underlying3 Try.underlying3 Try.underlying3 (by kernel_rfl) h
theorem op_of {H : Type} {enc : TypeId × Value → H} {W : World} {base b0 : Nat} {spare : Nat → Bool} {held : Bool} {r : Reach} {v : Value} {d : DataW H} {p : List MemPlace} (hv : Value.okWide Try.prog W r b0 38 v) (h : DataW.Trod enc Try.prog W base spare held 38 v d p) :
    ∃ a b c d e : Int, v = .agg #[.int .i64 a, .int .i64 b, .int .i64 c, .int .i64 d, .int .i64 e] := by
  obtain ⟨cs, rfl, hsz⟩ := okWide_struct Try.underlying38 hv
  obtain ⟨fuel, hf⟩ := h
  obtain ⟨a, b, c, d, e, he⟩ := op_trod hf
  obtain ⟨l⟩ := cs
  simp [Value.cells] at he
  exact ⟨a, b, c, d, e, by rw [he]⟩
theorem pair_of {H : Type} {enc : TypeId × Value → H} {W : World} {base b0 : Nat} {spare : Nat → Bool} {held : Bool} {r : Reach} {v : Value} {d : DataW H} {p : List MemPlace} (hv : Value.okWide Try.prog W r b0 35 v) (h : DataW.Trod enc Try.prog W base spare held 35 v d p) :
    ∃ a b : Int, v = .agg #[.int .i64 a, .int .i64 b] := by
  have hu : Try.prog.underlying 35 = some (.array 2 3) := by kernel_rfl
  obtain ⟨cs, rfl, hsz⟩ := okWide_array hu hv
  obtain ⟨fuel, hf⟩ := h
  obtain ⟨a, b, he⟩ := trod_pair hu (by kernel_rfl) (by kernel_rfl) Try.underlying3 hf
  obtain ⟨l⟩ := cs
  simp [Value.cells] at he
  exact ⟨a, b, by rw [he]⟩
theorem ops_of {H : Type} {enc : TypeId × Value → H} {W : World} {base b0 : Nat} {spare : Nat → Bool} {held : Bool} {r : Reach} {v : Value} {d : DataW H} {p : List MemPlace} (hv : Value.okWide Try.prog W r b0 24 v) (h : DataW.Trod enc Try.prog W base spare held 24 v d p) :
    ∃ av L c, v = .slice av L c ∧ L ≤ maxLen ∧ ∃ A B C D E, OpsIn W av L A B C D E := by
  obtain ⟨a0, len0, cap0, rfl⟩ := okWide_slice Try.underlying24 hv
  obtain ⟨fuel, hf⟩ := h
  rcases open_slice Try.underlying24 hf with ⟨hcs, _⟩ | ⟨a, len, cap, m, n, D, Pl, hcs, hb, hl, hm, hmm, hx, hi⟩
  · simp [Value.cells] at hcs
    obtain ⟨rfl, rfl, rfl⟩ := hcs
    exact ⟨none, 0, 0, rfl, by unfold maxLen; omega, fun _ => 0, fun _ => 0, fun _ => 0, fun _ => 0, fun _ => 0, .inl rfl⟩
  · simp [Value.cells] at hcs
    obtain ⟨rfl, rfl, rfl⟩ := hcs
    have hC : Try.prog.cellsOf 38 = 5 := by kernel_rfl
    rw [hC] at hi
    refine ⟨_, _, _, rfl, by omega, ?_⟩
    by_cases h0 : len0 = 0
    · exact ⟨fun _ => 0, fun _ => 0, fun _ => 0, fun _ => 0, fun _ => 0, .inl h0⟩
    · have hle : len0 ≤ m := by rw [hmm]; split <;> omega
      have key : ∀ i, i < len0 → ∀ t, t < 5 → ∃ x, W.cell? ((a.add (i * 5)).add t) = some (.int .i64 x) := by
        intro i hil t ht
        obtain ⟨cs', hc, hh⟩ := hi i (by omega)
        obtain ⟨x0, x1, x2, x3, x4, rfl⟩ := op_trod hh
        obtain ⟨_, _, hat⟩ := World.cells?_some hc
        have t0 := hat t (by omega)
        have : t = 0 ∨ t = 1 ∨ t = 2 ∨ t = 3 ∨ t = 4 := by omega
        rcases this with rfl | rfl | rfl | rfl | rfl <;> exact ⟨_, t0⟩
      obtain ⟨x0, k0⟩ := key 0 (by omega) 0 (by omega)
      obtain ⟨b, off, spot⟩ := a
      have hspot : spot = none := by simpa [Addr.add] using World.cell?_spot k0
      subst hspot
      have hbl := World.block_lt_of_cell? W _ k0
      have fin : ∀ t, t < 5 → ∀ i, i < len0 → W.cell? ⟨b, off + i * 5 + t, none⟩ = some (.int .i64 (intOf ((W.cell? ⟨b, off + i * 5 + t, none⟩).getD (.bool false)))) := by
        intro t ht i hil
        obtain ⟨x, hx⟩ := key i hil t ht
        rw [add_plain, add_plain] at hx
        simp [hx, intOf]
      exact ⟨_, _, _, _, _, .inr ⟨b, off, rfl, by simpa [Addr.add] using hbl, fun i hil => ⟨fin 0 (by omega) i hil, fin 1 (by omega) i hil, fin 2 (by omega) i hil, fin 3 (by omega) i hil, fin 4 (by omega) i hil⟩⟩⟩
end Go.Proofs.Ytofgpcdhgkeccaa
