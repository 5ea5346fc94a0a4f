/- Laws of stage 2, the parts. -/
import Derived.Test.YtofgpcdhgkeccaaA2
import Derived.WalkKit
import Derived.WalkSpells
import Derived.ProofKit
import Derived.Outline
import Derived.Handy
import Derived.RowKit3
import Derived.BigQuiet
import Derived.Deep.QuietTactic
import Derived.Deep.RegionHeld3
import Derived.Deep.Draws
import Derived.Deep.RegionLaw
import Derived.RegionTactic
import Derived.BigRegion
import Derived.IntWalk
import Derived.LoopTactic
import Derived.OwnWalk
import Derived.Laws.AppendOwn
import Derived.Laws.OwnMore
import Derived.Laws.MakeOwn
import Derived.Laws.Pointers
import Derived.Maps.AppendAt
import Derived.Deep.AppendLies
import Derived.Below
namespace Go.Proofs.Ytofgpcdhgkeccaa
open Go.RowKit
set_option linter.unusedVariables false
set_option maxRecDepth 100000


theorem DS.here {n0 : Nat} {w0 W : World} {q : Cfg} {M K R E : Nat} {L : Nat → Nat} (h : DS n0 w0 q M K L R E W) (hn : n0 ≤ W.heap.size) : DS W.heap.size W q M K L R E W :=
  ⟨h.mem, h.ref, Fr.refl _ _, h.ap, fun k hk => Nat.lt_of_lt_of_le (h.lm k hk) hn, fun k hk => Nat.lt_of_lt_of_le (h.lr k hk) hn⟩
theorem DS.then {n0 : Nat} {w0 W W' : World} {q : Cfg} {M K R E : Nat} {L : Nat → Nat} (h : DS n0 w0 q M K L R E W) (k : DS W.heap.size W q M K L R E W') : DS n0 w0 q M K L R E W' :=
  ⟨k.mem, k.ref, h.fr.trans k.fr (fun _ _ h => h), h.ap, h.lm, h.lr⟩
theorem DS.keep {n0 : Nat} {w0 W : World} {q : Cfg} {M K R E : Nat} {L : Nat → Nat} (h : DS n0 w0 q M K L R E W) {lo : Nat} (hlo : ∀ k, Mem.S q M K L k ∨ Rf.S R E k → lo ≤ k) {p o : Nat} {v : Value} (hp : p < lo) (hp2 : p < w0.heap.size) (hc : w0.cell? ⟨p, o, none⟩ = some v) : W.cell? ⟨p, o, none⟩ = some v :=
  (h.fr.cell hp2 (fun hs => by have := hlo p hs; omega)).trans hc
def Loop1 (n0 : Nat) (w0 : World) (q : Cfg) (M K : Nat) (L : Nat → Nat) (R E : Nat) (Ln : Nat) (v : Value) (wr : World) : Prop :=
  ∃ k : Nat, k ≤ Ln ∧ v = .int .i64 k ∧ DS n0 w0 q M K L R E wr
/-- What stands behind the calls: the boxes of the law, and that nothing that was there has turned. -/
structure Bx (w : World) (q : Cfg) (ob od oe : Int) (W : World) : Prop where
  box : Box W w.heap.size q.a q.b q.c q.d q.e q.f q.g
  b1 : W.cell? ⟨w.heap.size + 1, 1, none⟩ = some (.int .i64 ob)
  b3 : W.cell? ⟨w.heap.size + 1, 3, none⟩ = some (.int .i64 od)
  b4 : W.cell? ⟨w.heap.size + 1, 4, none⟩ = some (.int .i64 oe)
  lt : w.heap.size + 1 < W.heap.size
  bel : Below w.heap.size w W
theorem Bx.kept {w W W' : World} {q : Cfg} {ob od oe : Int} {S : Nat → Prop} (h : Bx w q ob od oe W) (f : Fr S W W') (hS : ∀ k, S k → w.heap.size + 1 < k) : Bx w q ob od oe W' := by
  have n1 : ¬ S (w.heap.size + 1) := fun h => by have := hS _ h; omega
  have n0 : ¬ S w.heap.size := fun h => by have := hS _ h; omega
  exact ⟨box_fr h.box f n0, (f.cell h.lt n1).trans h.b1, (f.cell h.lt n1).trans h.b3, (f.cell h.lt n1).trans h.b4, Nat.lt_of_lt_of_le h.lt f.size, h.bel.trans (f.below h.bel.size (fun i hi hs => by have := hS _ hs; omega))⟩
theorem Bx.next {w W W' : World} {q : Cfg} {ob od oe : Int} (h : Bx w q ob od oe W) (hb : Below W.heap.size W W') : Bx w q ob od oe W' := h.kept (Fr.of_below (S := fun _ => False) hb) (fun _ h => h.elim)

/-- Two memories, apart, and the boxes of the law. -/
structure SA (w : World) (q : Cfg) (ob od oe : Int) (n1 M K : Nat) (L : Nat → Nat) (φ : Nat → Int) (M2 K2 : Nat) (L2 : Nat → Nat) (ψ : Nat → Int) (W : World) : Prop where
  m : Mem W q M K L φ
  n : Mem W q M2 K2 L2 ψ
  b : Bx w q ob od oe W
  lo : ∀ k, Mem.S q M K L k → w.heap.size + 1 < k ∧ k < n1
  hi : ∀ k, Mem.S q M2 K2 L2 k → n1 ≤ k
  n1w : w.heap.size + 1 < n1
section
variable {w W W' : World} {q : Cfg} {ob od oe : Int} {n1 M K M2 K2 : Nat} {L L2 : Nat → Nat} {φ φ' ψ ψ' : Nat → Int}
theorem SA.next (h : SA w q ob od oe n1 M K L φ M2 K2 L2 ψ W) (hb : Below W.heap.size W W') : SA w q ob od oe n1 M K L φ M2 K2 L2 ψ W' := ⟨h.m.next hb, h.n.next hb, h.b.next hb, h.lo, h.hi, h.n1w⟩
theorem SA.one (h : SA w q ob od oe n1 M K L φ M2 K2 L2 ψ W) (hm : Mem W' q M K L φ') (f : Fr (Mem.S q M K L) W W') : SA w q ob od oe n1 M K L φ' M2 K2 L2 ψ W' :=
  ⟨hm, h.n.kept f (fun k hk hs => by have := h.lo k hs; have := h.hi k hk; omega), h.b.kept f (fun k hk => (h.lo k hk).1), h.lo, h.hi, h.n1w⟩
theorem SA.two (h : SA w q ob od oe n1 M K L φ M2 K2 L2 ψ W) (hm : Mem W' q M2 K2 L2 ψ') (f : Fr (Mem.S q M2 K2 L2) W W') : SA w q ob od oe n1 M K L φ M2 K2 L2 ψ' W' :=
  ⟨h.m.kept f (fun k hk hs => by have := h.lo k hk; have := h.hi k hs; omega), hm, h.b.kept f (fun k hk => by have := h.hi k hk; have := h.n1w; omega), h.lo, h.hi, h.n1w⟩
end
theorem same_sa {w W : World} {q : Cfg} {ob od oe : Int} {n1 M K M2 K2 : Nat} {L L2 : Nat → Nat} {φ ψ : Nat → Int} {v : Bool} (hv : eqB φ ψ (q.n * 2) = v) (h : SA w q ob od oe n1 M K L φ M2 K2 L2 ψ W) : Calls Try.prog 16 #[.pointer (some ⟨M, 0, none⟩), .pointer (some ⟨M2, 0, none⟩)] W fun r w' => r = .returned (.bool v) ∧ Below W.heap.size W w' := same_v v hv W h.m h.n
def Loop2 (w : World) (q : Cfg) (ob od oe : Int) (n1 M K : Nat) (L : Nat → Nat) (φ : Nat → Int) (M2 K2 : Nat) (L2 : Nat → Nat) (ψ : Nat → Int) (v : Value) (wr : World) : Prop :=
  ∃ k : Nat, k ≤ q.n ∧ v = .int .i64 k ∧ SA w q ob od oe n1 M K L φ M2 K2 L2 ψ wr
theorem last9 {a b c d e f g h i : Prop} (x : a ∧ b ∧ c ∧ d ∧ e ∧ f ∧ g ∧ h ∧ i) : i := x.2.2.2.2.2.2.2.2
theorem frK {q : Cfg} {M K : Nat} {L : Nat → Nat} {w w' : World} (f : Fr (fun k => k = K) w w') : Fr (Mem.S q M K L) w w' := f.mono (fun k _ h => .inr (.inl h))
end Go.Proofs.Ytofgpcdhgkeccaa
