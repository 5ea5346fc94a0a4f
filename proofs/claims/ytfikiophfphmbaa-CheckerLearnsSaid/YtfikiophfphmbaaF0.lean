/- A range over nothing. -/
import Derived.Test.YtfikiophfphmbaaE1
import Derived.WalkKit
import Derived.WalkSpells
import Derived.ProofKit
import Derived.Outline
import Derived.Handy
import Derived.RowKit3
import Derived.BigQuiet
import Derived.Deep.QuietTactic
import Derived.Deep.RegionHeld3
import Derived.Deep.Draws
import Derived.Deep.RegionLaw
import Derived.RegionTactic
import Derived.BigRegion
import Derived.IntWalk
import Derived.LoopTactic
import Derived.OwnWalk
import Derived.Laws.AppendOwn
import Derived.Laws.OwnMore
import Derived.Laws.MakeOwn
import Derived.Laws.Pointers
import Derived.Maps.AppendAt
import Derived.Deep.AppendLies
import Derived.Below
import Derived.RangeFuncNested
import Derived.RangeFuncBound
import Derived.RangeFuncCalls
import Derived.RangeFuncLeaves
import Derived.Shelf.Abstract
import Derived.LoopNIn
import Derived.LoopIn
import Derived.OwnWalkIn
import Derived.TacticsInMore
namespace Go.Proofs.Ytfikiophfphmbaa
open Go.RowKit
set_option linter.unusedVariables false
set_option maxRecDepth 100000

theorem all_stops0 (S : Nat → Prop) (n : Nat) (hn : 1 ≤ n) (B : Nat) (w : World) (hB : B < w.heap.size) (hc : w.cell? ⟨B, 0, none⟩ = some (.slice none 0 0)) :
    SeqStopsK Fence.wide n Try.prog 38 #[.pointer (some ⟨B, 0, none⟩)] (fun x : Int × Int => #[.int .i64 x.1, .int .i64 x.2]) (Fr S) (fun xs => xs = []) (fun _ => False) 0 w := fun l J Jx W hW hJ hJx hY h0 => by
  have c := cell_next hW hB hc
  refine callsIn_of_wp Try.func38 rfl trivial ?_ rfl
  simp only [Try.ntmps38, List.size_toArray, List.length_cons, List.length_nil, Nat.reduceAdd, Nat.reduceSub, Array.replicate_succ, Array.replicate_zero, List.push_toArray, List.append_toArray, List.nil_append, List.cons_append]
  gi_wp2
  gi_loopw [7] (fun i wr => i = .int .i64 0 ∧ J [] wr) (fun _ _ => 0)
  case atStart => exact ⟨rfl, h0⟩
  case round =>
    obtain ⟨rfl, hJ0⟩ := hrel
    gi_wp2
    go_end0
    exact ⟨⟨_, rfl⟩, .inl ⟨_, rfl, hJ0⟩⟩
/-- A range over what a nil checker knows: no round. -/
theorem rf_none {Q : Exit → Act → World → Prop} {g : Operand} {body : Code} {a : Act} {w : World} {B p q : Nat}
    (hg : a.eval g = .func (.func 38) #[] #[.pointer (some ⟨B, 0, none⟩)]) (hB : B < w.heap.size) (hc : w.cell? ⟨B, 0, none⟩ = some (.slice none 0 0))
    (hdone : ∀ (D : Nat) (W : World), w.heap.size ≤ D → Below w.heap.size w W → W.heap[D]? = some (.deferred (some [])) → Q .normal { a with defers := { target := .collected D, args := #[] } :: a.defers } W) :
    (Code.rangeFunc g #[p, q] .skip body).wpIn Fence.wide 3 Try.prog Q a w := by
  refine wpIn_rangeFunc_ownH (Kp := fun A C => Fr (fun k => w.heap.size ≤ k) A C) (S := fun xs => xs = []) (Sp := fun _ => False) (N := 0) (w0 := w) (encs := fun x : Int × Int => #[.int .i64 x.1, .int .i64 x.2]) rfl (by omega) hg trivial (enters_of Try.func38 (by kernel_rfl) rfl) (all_stops0 (w := w) _ (3 - 1) (by omega) B hB hc) (fun h k => h.trans k (fun _ _ h => h)) (fun W l o o' hl _ _ _ => ⟨rfl, rfl, rfl, by simp, fun i hi hn => World.putObj_heap_other (by rintro rfl; exact hn hl)⟩) (Below.refl _ _) (fun _ => rfl)
    (fun _ W => Below w.heap.size w W) (fun _ _ _ => False) ?own (fun _ => ownFrom_pure _ _) (Below.refl _ _) (fun _ _ _ => True) (fun _ _ => ownFrom_pure _ _) ?assign ?body ?done ?stop
  case own =>
    intro s A C row h hg hr
    exact h.grown hg h.size (fun k hk => (hr k hk).1)
  case assign =>
    intro l pre x W K hi hK
    gi_wp2
    exact hK _ _ (KeepsFrom.refl _ _) (Fr.refl _ _) hi trivial
  case body =>
    intro l pre x a' W _ _ _ _ hlt
    exact absurd hlt (Nat.not_lt_zero _)
  case done =>
    rintro D xs W hD rfl hi hK
    exact hdone D W hD hi hK
  case stop =>
    intro D c pre W hD hp
    exact hp.elim
end Go.Proofs.Ytfikiophfphmbaa
