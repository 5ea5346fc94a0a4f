/- TableWalks, whole; calls opened. -/
import Derived.Test.YtdpdofdfdjcpoaaI
import Derived.WalkKit
import Derived.WalkSpells
import Derived.ProofKit
import Derived.Outline
import Derived.Handy
import Derived.RowKit3
import Derived.BigQuiet
import Derived.Deep.QuietTactic
import Derived.Deep.RegionHeld3
import Derived.Deep.Draws
import Derived.RegionTactic
import Derived.BigRegion
import Derived.IntWalk
import Derived.LoopTactic
import Derived.OwnWalk
import Derived.Laws.AppendOwn
import Derived.Laws.OwnMore
import Derived.Laws.MakeOwn
import Derived.Laws.Pointers
import Derived.Maps.AppendAt
import Derived.Below
import Derived.Deep.Slices
import Derived.Lib.SmallJoins
import Derived.Deep.Fields
import Derived.ChangeSame
namespace Go.Proofs.Ytdpdofdfdjcpoaa
open Go.Joins Go.ChangeShapes Go.WideShapes Go.RowKit Go.Deep
set_option linter.unusedVariables false
set_option maxRecDepth 100000

theorem walks_out (gr : Int) (av : Option Addr) (L c : Nat) (hL : L ≤ maxLen) (h : ¬ (1 ≤ gr ∧ gr ≤ 16 ∧ L ≤ 40)) (w : World) :
    Calls Try.prog 4 #[.int .i64 gr, .slice av L c] w fun r w' => r = .returned (.bool true) ∧ Below w.heap.size w w' := by
  unfold maxLen at hL
  by_cases h1 : gr < 1
  · clear h
    go_enter Try.func4, Try.ntmps4
    go_wp2_with fail
    refine (awake_ok _).mono ?_
    rintro r w1 ⟨rfl, hb⟩
    go_wp2
    go_ret
    exact ⟨rfl, hb⟩
  · by_cases h2 : 16 < gr
    · clear h
      go_enter Try.func4, Try.ntmps4
      go_wp2_with fail
      refine (awake_ok _).mono ?_
      rintro r w1 ⟨rfl, hb⟩
      go_wp2
      go_ret
      exact ⟨rfl, hb⟩
    · have h3 : 40 < (L : Int) := by omega
      clear h
      go_enter Try.func4, Try.ntmps4
      go_wp2_with fail
      refine (awake_ok _).mono ?_
      rintro r w1 ⟨rfl, hb⟩
      go_wp2
      go_ret
      exact ⟨rfl, hb⟩

def boolOf : Value → Bool
  | .bool b => b
  | _ => false
theorem add_plain (b off n : Nat) : (⟨b, off, none⟩ : Addr).add n = ⟨b, off + n, none⟩ := by
  cases n <;> simp [Addr.add]
theorem ops_of {H : Type} {enc : TypeId × Value → H} {W : World} {base b0 : Nat} {spare : Nat → Bool} {held : Bool} {r : Reach} {v : Value} {d : DataW H} {p : List MemPlace} (hv : Value.okWide Try.prog W r b0 22 v) (h : DataW.Trod enc Try.prog W base spare held 22 v d p) :
    ∃ av L c, v = .slice av L c ∧ L ≤ maxLen ∧ ∃ G X B, OpsIn W av L G X B := by
  obtain ⟨a0, len0, cap0, rfl⟩ := okWide_slice Try.underlying22 hv
  obtain ⟨fuel, hf⟩ := h
  rcases open_slice Try.underlying22 hf with ⟨hcs, _⟩ | ⟨a, len, cap, m, n, D, Pl, hcs, hb, hl, hm, hmm, hx, hi⟩
  · simp [Value.cells] at hcs
    obtain ⟨rfl, rfl, rfl⟩ := hcs
    exact ⟨none, 0, 0, rfl, by unfold maxLen; omega, fun _ => 0, fun _ => 0, fun _ => false, .inl rfl⟩
  · simp [Value.cells] at hcs
    obtain ⟨rfl, rfl, rfl⟩ := hcs
    have hC : Try.prog.cellsOf 44 = 3 := by kernel_rfl
    rw [hC] at hi
    refine ⟨_, _, _, rfl, by omega, ?_⟩
    by_cases h0 : len0 = 0
    · exact ⟨fun _ => 0, fun _ => 0, fun _ => false, .inl h0⟩
    · have hle : len0 ≤ m := by rw [hmm]; split <;> omega
      have key : ∀ i, i < len0 → ∃ x y z, W.cell? (a.add (i * 3)) = some (.int .i64 x) ∧ W.cell? ((a.add (i * 3)).add 1) = some (.int .i64 y) ∧ W.cell? ((a.add (i * 3)).add 2) = some (.bool z) := by
        intro i hil
        obtain ⟨cs', hc, ht⟩ := hi i (by omega)
        obtain ⟨x, y, z, rfl, -⟩ := trod_op Try.underlying44 Try.underlying35 rfl (by kernel_rfl) rfl (by kernel_rfl) rfl (by kernel_rfl) rfl (by kernel_rfl) Try.underlying3 Try.underlying3 Try.underlying4 (by kernel_rfl) ht
        obtain ⟨_, _, hat⟩ := World.cells?_some hc
        have t0 := hat 0 (by omega)
        have t1 := hat 1 (by omega)
        have t2 := hat 2 (by omega)
        refine ⟨x, y, z, ?_, ?_, ?_⟩
        · simpa [Addr.add] using t0
        · simpa [Addr.add] using t1
        · simpa [Addr.add] using t2
      obtain ⟨x0, y0, z0, k0, -, -⟩ := key 0 (by omega)
      obtain ⟨b, off, spot⟩ := a
      have hspot : spot = none := by simpa [Addr.add] using World.cell?_spot k0
      subst hspot
      have hbl := World.block_lt_of_cell? W _ k0
      refine ⟨fun i => intOf ((W.cell? ⟨b, off + i * 3, none⟩).getD (.bool false)), fun i => intOf ((W.cell? ⟨b, off + i * 3 + 1, none⟩).getD (.bool false)), fun i => boolOf ((W.cell? ⟨b, off + i * 3 + 2, none⟩).getD (.bool false)), .inr ⟨b, off, rfl, by simpa [Addr.add] using hbl, fun i hil => ?_⟩⟩
      obtain ⟨x, y, z, q0, q1, q2⟩ := key i hil
      have r0 : W.cell? ⟨b, off + i * 3, none⟩ = some (.int .i64 x) := by rw [add_plain] at q0; exact q0
      have r1 : W.cell? ⟨b, off + i * 3 + 1, none⟩ = some (.int .i64 y) := by rw [add_plain, add_plain] at q1; exact q1
      have r2 : W.cell? ⟨b, off + i * 3 + 2, none⟩ = some (.bool z) := by rw [add_plain, add_plain] at q2; exact q2
      refine ⟨?_, ?_, ?_⟩
      · simp [r0, intOf]
      · simp [r1, intOf]
      · simp [r2, boolOf]
theorem walks_law (gr : Int) (av : Option Addr) (L c : Nat) (hL : L ≤ maxLen) (G X : Nat → Int) (B : Nat → Bool) (w : World) (hl : OpsIn w av L G X B) : Calls Try.prog 4 #[.int .i64 gr, .slice av L c] w fun r w' => r = .returned (.bool true) ∧ Below w.heap.size w w' := by
  by_cases h : 1 ≤ gr ∧ gr ≤ 16 ∧ L ≤ 40
  · obtain ⟨n, rfl⟩ : ∃ n : Nat, gr = n := ⟨gr.toNat, by omega⟩
    exact walks_in n (by omega) (by omega) av L c h.2.2 G X B w hl
  · exact walks_out gr av L c hL h w
end Go.Proofs.Ytdpdofdfdjcpoaa
