/- Notes opened. -/
import Derived.Test.YtopfbmgmpihcnaaM
import Derived.WalkKit
import Derived.WalkSpells
import Derived.ProofKit
import Derived.Outline
import Derived.Handy
import Derived.RowKit3
import Derived.BigQuiet
import Derived.Deep.QuietTactic
import Derived.Deep.RegionHeld3
import Derived.Deep.Draws
import Derived.Deep.RegionLaw
import Derived.RegionTactic
import Derived.BigRegion
import Derived.IntWalk
import Derived.LoopTactic
import Derived.OwnWalk
import Derived.Laws.AppendOwn
import Derived.Laws.OwnMore
import Derived.Laws.MakeOwn
import Derived.Laws.Pointers
import Derived.Maps.AppendAt
import Derived.Deep.AppendLies
import Derived.Below
import Derived.Deep.Slices
import Derived.Lib.SmallJoins
import Derived.Deep.Fields
import Derived.ChangeSame
namespace Go.Proofs.Ytopfbmgmpihcnaa
open Go.Joins Go.ChangeShapes Go.WideShapes Go.Deep Go.RowKit
set_option linter.unusedVariables false
set_option maxRecDepth 100000


section
variable {H : Type} {enc : TypeId × Value → H} {W : World} {base : Nat} {spare : Nat → Bool} {held : Bool}
theorem trod_line {fuel : Nat} {cs : List Value} {x : DataW H × List MemPlace} (h : DataW.trod enc Try.prog W base spare held fuel 49 cs = some x) : ∃ a b : Int, cs = [.int .i64 a, .int .i64 b] := by
  obtain ⟨xs, n, _, hx, hcl, hlen, hg⟩ := DataW.trod_array (show Try.prog.underlying 49 = some (.array 2 3) by kernel_rfl) h
  have hC : Try.prog.cellsOf 49 = 2 := by kernel_rfl
  have hone : Try.prog.cellsOf 3 = 1 := by kernel_rfl
  rw [hC] at hcl
  match cs, hcl, xs, hlen with
  | [c0, c1], _, [y0, y1], _ =>
    have h0 := hg 0 (by omega)
    have h1 := hg 1 (by omega)
    simp [hone] at h0 h1
    obtain ⟨x0, q0, rfl, z0⟩ := DataW.trod_int Try.underlying3 h0
    obtain ⟨x1, q1, rfl, z1⟩ := DataW.trod_int Try.underlying3 h1
    simp at q0 q1
    exact ⟨x0, x1, by rw [q0, q1]⟩
theorem trod_note {fuel : Nat} {cs : List Value} {x : DataW H × List MemPlace} (h : DataW.trod enc Try.prog W base spare held fuel 51 cs = some x) : ∃ q : Nt, cs = q.cs := by
  obtain ⟨xs, n, _, hx, hcl, hlen, hg⟩ := DataW.trod_struct Try.underlying51 h
  have hC : Try.prog.cellsOf 51 = 9 := by kernel_rfl
  have c3 : Try.prog.cellsOf 3 = 1 := by kernel_rfl
  have c4 : Try.prog.cellsOf 4 = 1 := by kernel_rfl
  have c49 : Try.prog.cellsOf 49 = 2 := by kernel_rfl
  rw [hC] at hcl
  match cs, hcl, xs, hlen with
  | [u0, u1, u2, u3, u4, u5, u6, u7, u8], _, [y0, y1, y2, y3, y4, y5, y6, y7], _ =>
    have g0 := hg 0 _ rfl
    have g1 := hg 1 _ rfl
    have g2 := hg 2 _ rfl
    have g3 := hg 3 _ rfl
    have g4 := hg 4 _ rfl
    have g5 := hg 5 _ rfl
    have g6 := hg 6 _ rfl
    have g7 := hg 7 _ rfl
    simp [c3, c4, c49] at g0 g1 g2 g3 g4 g5 g6 g7
    obtain ⟨a0, e0, rfl, -⟩ := DataW.trod_int Try.underlying3 g0
    obtain ⟨a1, e1, rfl, -⟩ := DataW.trod_int Try.underlying3 g1
    obtain ⟨a2, e2, rfl, -⟩ := DataW.trod_int Try.underlying3 g2
    obtain ⟨a3, e3, rfl, -⟩ := DataW.trod_int Try.underlying3 g3
    obtain ⟨a4, e4, rfl, -⟩ := DataW.trod_int Try.underlying3 g4
    obtain ⟨a5, a6, e5⟩ := trod_line g5
    obtain ⟨a7, e7, rfl⟩ := DataW.trod_bool Try.underlying4 g6
    obtain ⟨a8, e8, rfl, -⟩ := DataW.trod_int Try.underlying3 g7
    simp at e0 e1 e2 e3 e4 e5 e7 e8
    exact ⟨⟨a0, a1, a2, a3, a4, a5, a6, a7, a8⟩, by rw [e0, e1, e2, e3, e4, e5.1, e5.2, e7, e8]; rfl⟩
theorem trod_notes {fuel : Nat} {cs : List Value} {x : DataW H × List MemPlace} (h : DataW.trod enc Try.prog W base spare held fuel 30 cs = some x) :
    ∃ av c, ∃ ms : List Nt, cs = [.slice av ms.length c] ∧ ms.length ≤ maxLen ∧ SrcE W (.slice av ms.length c) ms := by
  rcases open_slice Try.underlying30 h with ⟨hcs, _⟩ | ⟨a, len, cap, m, n, D, Pl, hcs, hb, hl, hm, hmm, hx, hi⟩
  · exact ⟨none, 0, [], hcs, by simp, .inl (.inl ⟨rfl, rfl⟩)⟩
  · have hC : Try.prog.cellsOf 51 = 9 := by kernel_rfl
    rw [hC] at hi
    by_cases h0 : len = 0
    · subst h0
      exact ⟨some a, cap, [], hcs, by simp, .inr ⟨rfl, a, cap, rfl⟩⟩
    · have hle : len ≤ m := by rw [hmm]; split <;> omega
      have key : ∀ i : Fin len, ∃ q : Nt, ∀ t, t < 9 → W.cell? ((a.add (i.1 * 9)).add t) = q.cs[t]? := by
        intro i
        obtain ⟨cs', hc, hh⟩ := hi i.1 (by have := i.2; omega)
        obtain ⟨q, rfl⟩ := trod_note hh
        obtain ⟨_, _, hat⟩ := World.cells?_some hc
        exact ⟨q, hat⟩
      obtain ⟨f, hf⟩ := Classical.axiomOfChoice key
      have k0 : W.cell? ((a.add (0 * 9)).add 0) = some (.int .i64 (f ⟨0, by omega⟩).k) := hf ⟨0, by omega⟩ 0 (by omega)
      obtain ⟨b, off, spot⟩ := a
      have hspot : spot = none := by simpa [Addr.add] using World.cell?_spot k0
      subst hspot
      have hbl := World.block_lt_of_cell? W _ k0
      have hlen : (List.ofFn f).length = len := List.length_ofFn
      refine ⟨some ⟨b, off, none⟩, cap, List.ofFn f, by rw [hlen]; exact hcs, by rw [hlen]; omega, .inl (.inr ⟨b, off, cap, rfl, by rw [hlen]; exact hl, hm, fun _ => by simpa [Addr.add] using hbl, fun j u hu => ?_⟩)⟩
      have hj : j < len * 9 := by
        have := (List.getElem?_eq_some_iff.1 hu).1
        rw [cells_len, hlen] at this; exact this
      have hi9 : j / 9 < len := by omega
      have hx9 : (List.ofFn f)[j / 9]? = some (f ⟨j / 9, hi9⟩) := by simp [hi9]
      have e := cells_get (List.ofFn f) (j / 9) (j % 9) (by omega) _ hx9
      rw [show j / 9 * 9 + j % 9 = j by omega, hu] at e
      have k := hf ⟨j / 9, hi9⟩ (j % 9) (by omega)
      rw [add_plain, add_plain] at k
      rw [show off + j = off + j / 9 * 9 + j % 9 by omega, k, e]
theorem notes_of {b0 : Nat} {r : Reach} {v : Value} {d : DataW H} {p : List MemPlace} (hv : Value.okWide Try.prog W r b0 30 v) (h : DataW.Trod enc Try.prog W base spare held 30 v d p) :
    ∃ av c, ∃ ms : List Nt, v = .slice av ms.length c ∧ ms.length ≤ maxLen ∧ SrcE W (.slice av ms.length c) ms := by
  obtain ⟨a0, len0, cap0, rfl⟩ := okWide_slice Try.underlying30 hv
  obtain ⟨fuel, hf⟩ := h
  obtain ⟨av, c, ms, e, h1, h2⟩ := trod_notes hf
  simp [Value.cells] at e
  obtain ⟨rfl, rfl, rfl⟩ := e
  exact ⟨_, _, ms, rfl, h1, h2⟩
end
end Go.Proofs.Ytopfbmgmpihcnaa
