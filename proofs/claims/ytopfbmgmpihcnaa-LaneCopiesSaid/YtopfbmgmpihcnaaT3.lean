/- Calls opened. -/
import Derived.Test.YtopfbmgmpihcnaaT2
import Derived.Test.YtopfbmgmpihcnaaM2
import Derived.WalkKit
import Derived.WalkSpells
import Derived.ProofKit
import Derived.Outline
import Derived.Handy
import Derived.RowKit3
import Derived.BigQuiet
import Derived.Deep.QuietTactic
import Derived.Deep.RegionHeld3
import Derived.Deep.Draws
import Derived.Deep.RegionLaw
import Derived.RegionTactic
import Derived.BigRegion
import Derived.IntWalk
import Derived.LoopTactic
import Derived.OwnWalk
import Derived.Laws.AppendOwn
import Derived.Laws.OwnMore
import Derived.Laws.MakeOwn
import Derived.Laws.Pointers
import Derived.Maps.AppendAt
import Derived.Deep.AppendLies
import Derived.Below
import Derived.Deep.Slices
import Derived.Lib.SmallJoins
import Derived.Deep.Fields
import Derived.ChangeSame
namespace Go.Proofs.Ytopfbmgmpihcnaa
open Go.Joins Go.ChangeShapes Go.WideShapes Go.Deep Go.RowKit
set_option linter.unusedVariables false
set_option maxRecDepth 100000

theorem trod_op {H : Type} {enc : TypeId × Value → H} {W : World} {base : Nat} {spare : Nat → Bool} {held : Bool} {fuel : Nat} {cs : List Value} {x : DataW H × List MemPlace} (h : DataW.trod enc Try.prog W base spare held fuel 35 cs = some x) :
    ∃ (a z : Int) (av : Option Addr) (c : Nat) (ms : List Nt), cs = [.int .i64 a, .int .i64 z, .slice av ms.length c] ∧ ms.length ≤ maxLen ∧ SrcE W (.slice av ms.length c) ms := by
  obtain ⟨xs, n, _, hx, hcl, hlen, hg⟩ := DataW.trod_struct Try.underlying35 h
  have hC : Try.prog.cellsOf 35 = 3 := by kernel_rfl
  have c3 : Try.prog.cellsOf 3 = 1 := by kernel_rfl
  have c30 : Try.prog.cellsOf 30 = 1 := by kernel_rfl
  rw [hC] at hcl
  match cs, hcl, xs, hlen with
  | [u0, u1, u2], _, [y0, y1, y2], _ =>
    have g0 := hg 0 _ rfl
    have g1 := hg 1 _ rfl
    have g2 := hg 2 _ rfl
    simp [c3, c30] at g0 g1 g2
    obtain ⟨a0, e0, rfl, -⟩ := DataW.trod_int Try.underlying3 g0
    obtain ⟨a1, e1, rfl, -⟩ := DataW.trod_int Try.underlying3 g1
    obtain ⟨av, c, ms, e2, h1, h2⟩ := trod_notes g2
    simp at e0 e1 e2
    exact ⟨a0, a1, av, c, ms, by rw [e0, e1, e2], h1, h2⟩
def addrOf : Value → Option Addr
  | .slice a _ _ => a
  | _ => none
def capOf : Value → Nat
  | .slice _ _ c => c
  | _ => 0
theorem ops_of {H : Type} {enc : TypeId × Value → H} {W : World} {base b0 : Nat} {spare : Nat → Bool} {held : Bool} {r : Reach} {v : Value} {d : DataW H} {p : List MemPlace} (hv : Value.okWide Try.prog W r b0 22 v) (h : DataW.Trod enc Try.prog W base spare held 22 v d p) :
    ∃ av L c, v = .slice av L c ∧ L ≤ maxLen ∧ ∃ A Z AV C MS, OpsIn W av L A Z AV C MS := by
  obtain ⟨a0, len0, cap0, rfl⟩ := okWide_slice Try.underlying22 hv
  obtain ⟨fuel, hf⟩ := h
  rcases open_slice Try.underlying22 hf with ⟨hcs, _⟩ | ⟨a, len, cap, m, n, D, Pl, hcs, hb, hl, hm, hmm, hx, hi⟩
  · simp [Value.cells] at hcs
    obtain ⟨rfl, rfl, rfl⟩ := hcs
    exact ⟨none, 0, 0, rfl, by unfold maxLen; omega, fun _ => 0, fun _ => 0, fun _ => none, fun _ => 0, fun _ => [], .inl rfl⟩
  · simp [Value.cells] at hcs
    obtain ⟨rfl, rfl, rfl⟩ := hcs
    have hC : Try.prog.cellsOf 35 = 3 := by kernel_rfl
    rw [hC] at hi
    refine ⟨_, _, _, rfl, by omega, ?_⟩
    by_cases h0 : len0 = 0
    · exact ⟨fun _ => 0, fun _ => 0, fun _ => none, fun _ => 0, fun _ => [], .inl h0⟩
    · have hle : len0 ≤ m := by rw [hmm]; split <;> omega
      have key : ∀ i, i < len0 → ∃ q : Int × Int × Option Addr × Nat × List Nt, W.cell? ((a.add (i * 3)).add 0) = some (.int .i64 q.1) ∧ W.cell? ((a.add (i * 3)).add 1) = some (.int .i64 q.2.1) ∧ W.cell? ((a.add (i * 3)).add 2) = some (.slice q.2.2.1 q.2.2.2.2.length q.2.2.2.1) ∧ SrcE W (.slice q.2.2.1 q.2.2.2.2.length q.2.2.2.1) q.2.2.2.2 ∧ q.2.2.2.2.length ≤ maxLen := by
        intro i hil
        obtain ⟨cs', hc, hh⟩ := hi i (by omega)
        obtain ⟨x, z, av, c, ms, rfl, h1, h2⟩ := trod_op hh
        obtain ⟨_, _, hat⟩ := World.cells?_some hc
        exact ⟨⟨x, z, av, c, ms⟩, hat 0 (by omega), hat 1 (by omega), hat 2 (by omega), h2, h1⟩
      have ⟨f, hf⟩ := Classical.axiomOfChoice (fun i : {i // i < len0} => key i.1 i.2)
      obtain ⟨k0, -⟩ := hf ⟨0, by omega⟩
      obtain ⟨b, off, spot⟩ := a
      have hspot : spot = none := by simpa [Addr.add] using World.cell?_spot k0
      subst hspot
      have hbl := World.block_lt_of_cell? W _ k0
      let g : Nat → Int × Int × Option Addr × Nat × List Nt := fun i => if h : i < len0 then f ⟨i, h⟩ else ⟨0, 0, none, 0, []⟩
      have hg : ∀ i (h : i < len0), g i = f ⟨i, h⟩ := fun i h => dif_pos h
      refine ⟨fun i => (g i).1, fun i => (g i).2.1, fun i => (g i).2.2.1, fun i => (g i).2.2.2.1, fun i => (g i).2.2.2.2, .inr ⟨b, off, rfl, by simpa [Addr.add] using hbl, fun i hil => ?_⟩⟩
      obtain ⟨q0, q1, q2, q3, q4⟩ := hf ⟨i, hil⟩
      rw [add_plain, add_plain] at q0 q1 q2
      simp only [hg i hil]
      exact ⟨by simpa using q0, q1, q2, q3.b, q4⟩
end Go.Proofs.Ytopfbmgmpihcnaa
