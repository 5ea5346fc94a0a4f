/- Entries opened. -/
import Derived.Test.YtfikiophfphmbaaZ0
import Derived.WalkKit
import Derived.WalkSpells
import Derived.ProofKit
import Derived.Outline
import Derived.Handy
import Derived.RowKit3
import Derived.BigQuiet
import Derived.Deep.QuietTactic
import Derived.Deep.RegionHeld3
import Derived.Deep.Draws
import Derived.Deep.RegionLaw
import Derived.RegionTactic
import Derived.BigRegion
import Derived.IntWalk
import Derived.LoopTactic
import Derived.OwnWalk
import Derived.Laws.AppendOwn
import Derived.Laws.OwnMore
import Derived.Laws.MakeOwn
import Derived.Laws.Pointers
import Derived.Maps.AppendAt
import Derived.Deep.AppendLies
import Derived.Below
import Derived.Deep.Slices
import Derived.Lib.SmallJoins
import Derived.Deep.Fields
import Derived.ChangeSame
import Derived.OpenShut
namespace Go.Proofs.Ytfikiophfphmbaa
open Go.Joins Go.ChangeShapes Go.WideShapes Go.Deep Go.RowKit
set_option linter.unusedVariables false
set_option maxRecDepth 100000

def boolOf : Value → Bool
  | .bool b => b
  | _ => false
theorem ent_trod {H : Type} {enc : TypeId × Value → H} {W : World} {base : Nat} {spare : Nat → Bool} {held : Bool} {fuel : Nat} {cs : List Value} {x : DataW H × List MemPlace} (h : DataW.trod enc Try.prog W base spare held fuel 34 cs = some x) : ∃ (a : Int) (b : Bool), cs = [.int .i64 a, .bool b] := by
  obtain ⟨xs, n, _, hx, hcl, hlen, hg⟩ := DataW.trod_struct Try.underlying34 h
  have hC : Try.prog.cellsOf 34 = 2 := by kernel_rfl
  rw [hC] at hcl
  have c3 : Try.prog.cellsOf 3 = 1 := by kernel_rfl
  have c4 : Try.prog.cellsOf 4 = 1 := by kernel_rfl
  match cs, hcl, xs, hlen with
  | [u0, u1], _, [y0, y1], _ =>
    have g0 := hg 0 _ rfl
    have g1 := hg 1 _ rfl
    simp [c3, c4] at g0 g1
    obtain ⟨a, e0, rfl, -⟩ := DataW.trod_int Try.underlying3 g0
    obtain ⟨b, e1, rfl⟩ := DataW.trod_bool Try.underlying4 g1
    simp at e0 e1
    exact ⟨a, b, by rw [e0, e1]⟩
def EntIn (w : World) (av : Option Addr) (L : Nat) (X : Nat → Int) (B : Nat → Bool) : Prop := L = 0 ∨ ∃ b off, av = some ⟨b, off, none⟩ ∧ b < w.heap.size ∧ ∀ i, i < L → w.cell? ⟨b, off + i * 2, none⟩ = some (.int .i64 (X i)) ∧ w.cell? ⟨b, off + i * 2 + 1, none⟩ = some (.bool (B i))
theorem ents_of {H : Type} {enc : TypeId × Value → H} {W : World} {base b0 : Nat} {spare : Nat → Bool} {held : Bool} {r : Reach} {v : Value} {d : DataW H} {p : List MemPlace} (hv : Value.okWide Try.prog W r b0 52 v) (h : DataW.Trod enc Try.prog W base spare held 52 v d p) :
    ∃ av L c, v = .slice av L c ∧ L ≤ maxLen ∧ ∃ X B, EntIn W av L X B := by
  obtain ⟨a0, len0, cap0, rfl⟩ := okWide_slice Try.underlying52 hv
  obtain ⟨fuel, hf⟩ := h
  rcases open_slice Try.underlying52 hf with ⟨hcs, _⟩ | ⟨a, len, cap, m, n, D, Pl, hcs, hb, hl, hm, hmm, hx, hi⟩
  · simp [Value.cells] at hcs
    obtain ⟨rfl, rfl, rfl⟩ := hcs
    exact ⟨none, 0, 0, rfl, by unfold maxLen; omega, fun _ => 0, fun _ => false, .inl rfl⟩
  · simp [Value.cells] at hcs
    obtain ⟨rfl, rfl, rfl⟩ := hcs
    have hC : Try.prog.cellsOf 34 = 2 := by kernel_rfl
    rw [hC] at hi
    refine ⟨_, _, _, rfl, by omega, ?_⟩
    by_cases h0 : len0 = 0
    · exact ⟨fun _ => 0, fun _ => false, .inl h0⟩
    · have hle : len0 ≤ m := by rw [hmm]; split <;> omega
      have key : ∀ i, i < len0 → ∃ x y, W.cell? (a.add (i * 2)) = some (.int .i64 x) ∧ W.cell? ((a.add (i * 2)).add 1) = some (.bool y) := by
        intro i hil
        obtain ⟨cs', hc, hh⟩ := hi i (by omega)
        obtain ⟨x0, x1, rfl⟩ := ent_trod hh
        obtain ⟨_, _, hat⟩ := World.cells?_some hc
        have t0 := hat 0 (by omega)
        have t1 := hat 1 (by omega)
        exact ⟨x0, x1, by simpa [Addr.add] using t0, by simpa [Addr.add] using t1⟩
      obtain ⟨x0, y0, k0, -⟩ := key 0 (by omega)
      obtain ⟨b, off, spot⟩ := a
      have hspot : spot = none := by simpa [Addr.add] using World.cell?_spot k0
      subst hspot
      have hbl := World.block_lt_of_cell? W _ k0
      refine ⟨fun i => intOf ((W.cell? ⟨b, off + i * 2, none⟩).getD (.bool false)), fun i => boolOf ((W.cell? ⟨b, off + i * 2 + 1, none⟩).getD (.bool false)), .inr ⟨b, off, rfl, by simpa [Addr.add] using hbl, fun i hil => ?_⟩⟩
      obtain ⟨x, y, q0, q1⟩ := key i hil
      have r0 : W.cell? ⟨b, off + i * 2, none⟩ = some (.int .i64 x) := by rw [add_plain] at q0; exact q0
      have r1 : W.cell? ⟨b, off + i * 2 + 1, none⟩ = some (.bool y) := by rw [add_plain, add_plain] at q1; exact q1
      exact ⟨by simp [r0, intOf], by simp [r1, boolOf]⟩
end Go.Proofs.Ytfikiophfphmbaa
