/- Turns opened. -/
import Derived.Test.YtfikiophfphmbaaR4
import Derived.Test.YtfikiophfphmbaaZ5
import Derived.WalkKit
import Derived.WalkSpells
import Derived.ProofKit
import Derived.Outline
import Derived.Handy
import Derived.RowKit3
import Derived.BigQuiet
import Derived.Deep.QuietTactic
import Derived.Deep.RegionHeld3
import Derived.Deep.Draws
import Derived.Deep.RegionLaw
import Derived.RegionTactic
import Derived.BigRegion
import Derived.IntWalk
import Derived.LoopTactic
import Derived.OwnWalk
import Derived.Laws.AppendOwn
import Derived.Laws.OwnMore
import Derived.Laws.MakeOwn
import Derived.Laws.Pointers
import Derived.Maps.AppendAt
import Derived.Deep.AppendLies
import Derived.Below
import Derived.Deep.Slices
import Derived.Lib.SmallJoins
import Derived.Deep.Fields
import Derived.ChangeSame
import Derived.OpenShut
namespace Go.Proofs.Ytfikiophfphmbaa
open Go.Joins Go.ChangeShapes Go.WideShapes Go.Deep Go.RowKit
set_option linter.unusedVariables false
set_option maxRecDepth 100000

theorem turn_trod {H : Type} {enc : TypeId × Value → H} {W : World} {base : Nat} {spare : Nat → Bool} {held : Bool} {fuel : Nat} {cs : List Value} {x : DataW H × List MemPlace} (h : DataW.trod enc Try.prog W base spare held fuel 36 cs = some x) : ∃ (a b c : Int) (d : Bool), cs = [.int .i64 a, .int .i64 b, .int .i64 c, .bool d] := by
  obtain ⟨xs, n, _, hx, hcl, hlen, hg⟩ := DataW.trod_struct Try.underlying36 h
  have hC : Try.prog.cellsOf 36 = 4 := by kernel_rfl
  rw [hC] at hcl
  have c3 : Try.prog.cellsOf 3 = 1 := by kernel_rfl
  have c34 : Try.prog.cellsOf 34 = 2 := by kernel_rfl
  match cs, hcl, xs, hlen with
  | [u0, u1, u2, u3], _, [y0, y1, y2], _ =>
    have g0 := hg 0 _ rfl
    have g1 := hg 1 _ rfl
    have g2 := hg 2 _ rfl
    simp [c3, c34] at g0 g1 g2
    obtain ⟨a, e0, rfl, -⟩ := DataW.trod_int Try.underlying3 g0
    obtain ⟨b, e1, rfl, -⟩ := DataW.trod_int Try.underlying3 g1
    obtain ⟨c, d, e2⟩ := ent_trod g2
    simp at e0 e1 e2
    exact ⟨a, b, c, d, by rw [e0, e1, e2.1, e2.2]⟩
theorem turns_of {H : Type} {enc : TypeId × Value → H} {W : World} {base b0 : Nat} {spare : Nat → Bool} {held : Bool} {r : Reach} {v : Value} {d : DataW H} {p : List MemPlace} (hv : Value.okWide Try.prog W r b0 23 v) (h : DataW.Trod enc Try.prog W base spare held 23 v d p) :
    ∃ av L c, v = .slice av L c ∧ L ≤ maxLen ∧ ∃ D G X B, TurnIn W av L D G X B := by
  obtain ⟨a0, len0, cap0, rfl⟩ := okWide_slice Try.underlying23 hv
  obtain ⟨fuel, hf⟩ := h
  rcases open_slice Try.underlying23 hf with ⟨hcs, _⟩ | ⟨a, len, cap, m, n, D, Pl, hcs, hb, hl, hm, hmm, hx, hi⟩
  · simp [Value.cells] at hcs
    obtain ⟨rfl, rfl, rfl⟩ := hcs
    exact ⟨none, 0, 0, rfl, by unfold maxLen; omega, fun _ => 0, fun _ => 0, fun _ => 0, fun _ => false, .inl rfl⟩
  · simp [Value.cells] at hcs
    obtain ⟨rfl, rfl, rfl⟩ := hcs
    have hC : Try.prog.cellsOf 36 = 4 := by kernel_rfl
    rw [hC] at hi
    refine ⟨_, _, _, rfl, by omega, ?_⟩
    by_cases h0 : len0 = 0
    · exact ⟨fun _ => 0, fun _ => 0, fun _ => 0, fun _ => false, .inl h0⟩
    · have hle : len0 ≤ m := by rw [hmm]; split <;> omega
      have key : ∀ i, i < len0 → ∃ x y z u, W.cell? (a.add (i * 4)) = some (.int .i64 x) ∧ W.cell? ((a.add (i * 4)).add 1) = some (.int .i64 y) ∧ W.cell? ((a.add (i * 4)).add 2) = some (.int .i64 z) ∧ W.cell? ((a.add (i * 4)).add 3) = some (.bool u) := by
        intro i hil
        obtain ⟨cs', hc, hh⟩ := hi i (by omega)
        obtain ⟨x0, x1, x2, x3, rfl⟩ := turn_trod hh
        obtain ⟨_, _, hat⟩ := World.cells?_some hc
        have t0 := hat 0 (by omega)
        have t1 := hat 1 (by omega)
        have t2 := hat 2 (by omega)
        have t3 := hat 3 (by omega)
        exact ⟨x0, x1, x2, x3, by simpa [Addr.add] using t0, by simpa [Addr.add] using t1, by simpa [Addr.add] using t2, by simpa [Addr.add] using t3⟩
      obtain ⟨x0, y0, q0, u0, k0, -⟩ := key 0 (by omega)
      obtain ⟨b, off, spot⟩ := a
      have hspot : spot = none := by simpa [Addr.add] using World.cell?_spot k0
      subst hspot
      have hbl := World.block_lt_of_cell? W _ k0
      refine ⟨fun i => intOf ((W.cell? ⟨b, off + i * 4, none⟩).getD (.bool false)), fun i => intOf ((W.cell? ⟨b, off + i * 4 + 1, none⟩).getD (.bool false)), fun i => intOf ((W.cell? ⟨b, off + i * 4 + 2, none⟩).getD (.bool false)), fun i => boolOf ((W.cell? ⟨b, off + i * 4 + 3, none⟩).getD (.bool false)), .inr ⟨b, off, rfl, by simpa [Addr.add] using hbl, fun i hil => ?_⟩⟩
      obtain ⟨x, y, z, u, q0, q1, q2, q3⟩ := key i hil
      have r0 : W.cell? ⟨b, off + i * 4, none⟩ = some (.int .i64 x) := by rw [add_plain] at q0; exact q0
      have r1 : W.cell? ⟨b, off + i * 4 + 1, none⟩ = some (.int .i64 y) := by rw [add_plain, add_plain] at q1; exact q1
      have r2 : W.cell? ⟨b, off + i * 4 + 2, none⟩ = some (.int .i64 z) := by rw [add_plain, add_plain] at q2; exact q2
      have r3 : W.cell? ⟨b, off + i * 4 + 3, none⟩ = some (.bool u) := by rw [add_plain, add_plain] at q3; exact q3
      exact ⟨by simp [r0, intOf], by simp [r1, intOf], by simp [r2, intOf], by rw [show off + i * 4 + 2 + 1 = off + i * 4 + 3 by omega]; simp [r3, boolOf]⟩
end Go.Proofs.Ytfikiophfphmbaa
