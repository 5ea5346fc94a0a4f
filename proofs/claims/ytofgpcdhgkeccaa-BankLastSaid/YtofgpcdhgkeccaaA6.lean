/- BankLast, the parts. -/
import Derived.Test.YtofgpcdhgkeccaaA5
import Derived.WalkKit
import Derived.WalkSpells
import Derived.ProofKit
import Derived.Outline
import Derived.Handy
import Derived.RowKit3
import Derived.BigQuiet
import Derived.Deep.QuietTactic
import Derived.Deep.RegionHeld3
import Derived.Deep.Draws
import Derived.Deep.RegionLaw
import Derived.RegionTactic
import Derived.BigRegion
import Derived.IntWalk
import Derived.LoopTactic
import Derived.OwnWalk
import Derived.Laws.AppendOwn
import Derived.Laws.OwnMore
import Derived.Laws.MakeOwn
import Derived.Laws.Pointers
import Derived.Maps.AppendAt
import Derived.Deep.AppendLies
import Derived.Below
namespace Go.Proofs.Ytofgpcdhgkeccaa
open Go.RowKit
set_option linter.unusedVariables false
set_option maxRecDepth 100000

/-- What stands behind the calls.  -/
structure By (w : World) (q : Cfg) (ob od : Int) (W : World) : Prop where
  box : Box W w.heap.size q.a q.b q.c q.d q.e q.f q.g
  b1 : W.cell? ⟨w.heap.size + 1, 0, none⟩ = some (.int .i64 ob)
  b3 : W.cell? ⟨w.heap.size + 1, 1, none⟩ = some (.int .i64 od)
  lt : w.heap.size + 1 < W.heap.size
  bel : Below w.heap.size w W
theorem By.kept {w W W' : World} {q : Cfg} {ob od : Int} {S : Nat → Prop} (h : By w q ob od W) (f : Fr S W W') (hS : ∀ k, S k → w.heap.size + 1 < k) : By w q ob od W' := by
  have n1 : ¬ S (w.heap.size + 1) := fun h => by have := hS _ h; omega
  have n0 : ¬ S w.heap.size := fun h => by have := hS _ h; omega
  exact ⟨box_fr h.box f n0, (f.cell h.lt n1).trans h.b1, (f.cell h.lt n1).trans h.b3, Nat.lt_of_lt_of_le h.lt f.size, h.bel.trans (f.below h.bel.size (fun i hi hs => by have := hS _ hs; omega))⟩
theorem By.next {w W W' : World} {q : Cfg} {ob od : Int} (h : By w q ob od W) (hb : Below W.heap.size W W') : By w q ob od W' := h.kept (Fr.of_below (S := fun _ => False) hb) (fun _ h => h.elim)

/-- Two memories, apart, and the boxes of the law. -/
structure SB (w : World) (q : Cfg) (ob od : Int) (n1 M K : Nat) (L : Nat → Nat) (φ : Nat → Int) (M2 K2 : Nat) (L2 : Nat → Nat) (ψ : Nat → Int) (W : World) : Prop where
  m : Mem W q M K L φ
  n : Mem W q M2 K2 L2 ψ
  b : By w q ob od W
  lo : ∀ k, Mem.S q M K L k → w.heap.size + 1 < k ∧ k < n1
  hi : ∀ k, Mem.S q M2 K2 L2 k → n1 ≤ k
  n1w : w.heap.size + 1 < n1
section
variable {w W W' : World} {q : Cfg} {ob od : Int} {n1 M K M2 K2 : Nat} {L L2 : Nat → Nat} {φ φ' ψ ψ' : Nat → Int}
theorem SB.next (h : SB w q ob od n1 M K L φ M2 K2 L2 ψ W) (hb : Below W.heap.size W W') : SB w q ob od n1 M K L φ M2 K2 L2 ψ W' := ⟨h.m.next hb, h.n.next hb, h.b.next hb, h.lo, h.hi, h.n1w⟩
theorem SB.one (h : SB w q ob od n1 M K L φ M2 K2 L2 ψ W) (hm : Mem W' q M K L φ') (f : Fr (Mem.S q M K L) W W') : SB w q ob od n1 M K L φ' M2 K2 L2 ψ W' :=
  ⟨hm, h.n.kept f (fun k hk hs => by have := h.lo k hs; have := h.hi k hk; omega), h.b.kept f (fun k hk => (h.lo k hk).1), h.lo, h.hi, h.n1w⟩
theorem SB.two (h : SB w q ob od n1 M K L φ M2 K2 L2 ψ W) (hm : Mem W' q M2 K2 L2 ψ') (f : Fr (Mem.S q M2 K2 L2) W W') : SB w q ob od n1 M K L φ M2 K2 L2 ψ' W' :=
  ⟨h.m.kept f (fun k hk hs => by have := h.lo k hk; have := h.hi k hs; omega), hm, h.b.kept f (fun k hk => by have := h.hi k hk; have := h.n1w; omega), h.lo, h.hi, h.n1w⟩
end
theorem same_sb {w W : World} {q : Cfg} {ob od : Int} {n1 M K M2 K2 : Nat} {L L2 : Nat → Nat} {φ ψ : Nat → Int} {v : Bool} (hv : eqB φ ψ (q.n * 2) = v) (h : SB w q ob od n1 M K L φ M2 K2 L2 ψ W) : Calls Try.prog 16 #[.pointer (some ⟨M, 0, none⟩), .pointer (some ⟨M2, 0, none⟩)] W fun r w' => r = .returned (.bool v) ∧ Below W.heap.size W w' := same_v v hv W h.m h.n

theorem words_in (q : Cfg) (w : World) : Calls Try.prog 18 #[q.v] w fun r w' => r = .returned (.int .i64 ((q.n : Int) * 2)) ∧ Below w.heap.size w w' := by
  refine (words_yes q.a q.b q.c q.d q.e q.f q.g q.ok w).mono ?_
  rintro r w' ⟨rfl, hb⟩
  exact ⟨by rw [q.hn], hb⟩
theorem granule_in (q : Cfg) (z : Int) (g : Nat) (h0 : 0 ≤ z) (h1 : z < q.n) (hg : z / 2 = (g : Int)) (w : World) : Calls Try.prog 22 #[q.v, .int .i64 z] w fun r w' => r = .returned (.tuple #[.int .i64 (g : Int), .int .i64 0]) ∧ Below w.heap.size w w' := by
  refine (granule_yes q.a q.b q.c q.d q.e q.f q.g z q.ok h0 (by have := q.hn; omega) w).mono ?_
  rintro r w' ⟨rfl, hb⟩
  exact ⟨by rw [hg], hb⟩
theorem wline_z (q : Cfg) (i l t : Nat) (hi : i < q.n * 2) (hl : i = l * 2 + t) (ht : t < 2) (w : World) : Calls Try.prog 20 #[q.v, .int .i64 i] w fun r w' => r = .returned (.tuple #[.int .i64 (l : Int), .int .i64 (t : Int), .int .i64 0]) ∧ Below w.heap.size w w' := by
  refine (wline_in q i hi w).mono ?_
  rintro r w' ⟨rfl, hb⟩
  have e1 : i / 2 = l := by omega
  have e2 : i % 2 = t := by omega
  exact ⟨by rw [e1, e2], hb⟩
def Loop4 (w : World) (q : Cfg) (ob od : Int) (n1 M K : Nat) (L : Nat → Nat) (φ : Nat → Int) (M2 K2 : Nat) (L2 : Nat → Nat) (ψ : Nat → Int) (v : Value) (wr : World) : Prop :=
  ∃ k : Nat, k ≤ q.n * 2 ∧ v = .int .i64 k ∧ SB w q ob od n1 M K L φ M2 K2 L2 ψ wr
end Go.Proofs.Ytofgpcdhgkeccaa
