/- Loops whose frame has deferred entries. -/
import Derived.Test.YtgdbjkkhmamdmaaJ
import Derived.Test.YtgdbjkkhmamdmaaM
import Derived.Test.YtgdbjkkhmamdmaaE
import Derived.Test.YtgdbjkkhmamdmaaD
import Derived.RangeFuncNested
import Derived.RangeFuncBound
import Derived.RangeFuncCalls
import Derived.RangeFuncLeaves
import Derived.Shelf.Abstract
import Derived.Shelf.RegionOpen
import Derived.WalkKit
import Derived.WalkSpells
import Derived.ProofKit
import Derived.OwnWalkIn
import Derived.TacticsInMore
import Derived.LoopNIn
import Derived.LoopIn
import Derived.Outline
import Derived.IntWalk
import Derived.LoopTactic
import Derived.Deep.RegionHeld3
import Derived.Deep.Draws
import Derived.BigQuiet
import Derived.Deep.QuietTactic
import Derived.Below
namespace Go.Proofs.Ytgdbjkkhmamdmaa
open Go.RowKit Go.Shelf
attribute [local go_sem] Oper.semAt_some
set_option linter.unusedVariables false
set_option maxRecDepth 100000
/-- All but the blocks of S is as it was. -/
structure Fr (S : Nat → Prop) (w w' : World) : Prop where
  os : w'.os = w.os
  tape : w'.tape = w.tape
  output : w'.output = w.output
  size : w.heap.size ≤ w'.heap.size
  block : ∀ k, k < w.heap.size → ¬ S k → w'.heap[k]? = w.heap[k]?
theorem Fr.refl (S : Nat → Prop) (w : World) : Fr S w w := ⟨rfl, rfl, rfl, Nat.le_refl _, fun _ _ _ => rfl⟩
theorem Fr.trans {S T : Nat → Prop} {a b c : World} (h : Fr S a b) (k : Fr T b c) (hT : ∀ i, i < a.heap.size → T i → S i) : Fr S a c :=
  ⟨k.os.trans h.os, k.tape.trans h.tape, k.output.trans h.output, Nat.le_trans h.size k.size, fun i hi hn => (k.block i (Nat.lt_of_lt_of_le hi h.size) (fun ht => hn (hT i hi ht))).trans (h.block i hi hn)⟩
theorem Fr.mono {S T : Nat → Prop} {a b : World} (h : Fr S a b) (hT : ∀ i, i < a.heap.size → S i → T i) : Fr T a b := ⟨h.os, h.tape, h.output, h.size, fun i hi hn => h.block i hi (fun hs => hn (hT i hi hs))⟩
theorem Fr.of_below {S : Nat → Prop} {a b : World} (h : Below a.heap.size a b) : Fr S a b := ⟨h.os, h.tape, h.output, h.size, fun i hi _ => h.block i hi⟩
theorem Fr.of_grown {S : Nat → Prop} {a b : World} {E : Nat} (h : a.grownBy b (some E)) (hE : E < a.heap.size → S E) : Fr S a b := ⟨h.os, h.tape, h.output, h.size, fun i hi hn => h.block i hi (fun e => hn (by injection e with e; subst e; exact hE hi))⟩
theorem Fr.of_grown' {S : Nat → Prop} {a b : World} {r : Option Nat} (h : a.grownBy b r) (hE : ∀ E, r = some E → E < a.heap.size → S E) : Fr S a b := ⟨h.os, h.tape, h.output, h.size, fun i hi hn => h.block i hi (fun e => hn (hE i e.symm hi))⟩
theorem Fr.below {S : Nat → Prop} {a b : World} {B : Nat} (h : Fr S a b) (hB : B ≤ a.heap.size) (hS : ∀ i, i < B → ¬ S i) : Below B a b := ⟨h.os, h.tape, h.output, h.size, fun i hi => h.block i (Nat.lt_of_lt_of_le hi hB) (hS i hi)⟩
theorem Fr.cell {S : Nat → Prop} {a b : World} (h : Fr S a b) {p o : Nat} (hp : p < a.heap.size) (hS : ¬ S p) : b.cell? ⟨p, o, none⟩ = a.cell? ⟨p, o, none⟩ := World.cell?_of_block (a := ⟨p, o, none⟩) (h.block p hp hS)
theorem Fr.frozen {S : Nat → Prop} {a b : World} (h : Fr S a b) {p o : Nat} (hp : p < a.heap.size) (hS : ¬ S p) : b.frozen? ⟨p, o, none⟩ = a.frozen? ⟨p, o, none⟩ := World.frozen?_of_block (a := ⟨p, o, none⟩) (h.block p hp hS)
theorem Fr.alloc {S : Nat → Prop} {a b : World} (h : Fr S a b) (o : Obj) : Fr S a (b.alloc o) :=
  ⟨h.os, h.tape, h.output, Nat.le_trans h.size (by simp), fun i hi hn => (Below.heap_alloc b o i (Nat.lt_of_lt_of_le hi h.size)).trans (h.block i hi hn)⟩
theorem Fr.drew {S : Nat → Prop} {a b : World} (h : Fr S a b) : Fr S a b.drew := ⟨h.os, h.tape, h.output, h.size, h.block⟩
theorem Fr.drewN {S : Nat → Prop} {a b : World} (h : Fr S a b) (n : Nat) : Fr S a (b.drewN n) := ⟨h.os, h.tape, h.output, h.size, h.block⟩
theorem Fr.setCell {S : Nat → Prop} {a b : World} (h : Fr S a b) {p : Addr} (hp : p.block < a.heap.size → S p.block) (u : Value) : Fr S a (b.setCell p u) :=
  ⟨h.os, h.tape, h.output, by simpa [World.setCell] using h.size, fun i hi hn => (Below.heap_setCell b p u i (by rintro rfl; exact hn (hp hi))).trans (h.block i hi hn)⟩
theorem setCell_cell_other {w : World} {a b : Addr} {v : Value} (h : a ≠ b) : (w.setCell b v).cell? a = w.cell? a := World.cell?_setCell_other _ _ _ _ (fun e => h e.symm)

/-- The slots ss of a frame laid anew. -/
def setAll (t : Array Value) (ss : List Nat) (u : Nat → Value) : Array Value := ss.foldl (fun t i => t.setIfInBounds i (u i)) t
/-- A loop whose frame's deferred entries may grow. -/
theorem wp_loop_ds {P : Program} {c : Code} {Q : Exit → Act → World → Prop} {a : Act} {w : World} (ss : List Nat) (I : Array Value → List Deferred → World → Prop) (μ : Array Value → Nat)
    (hs : a.tmps = setAll a.tmps ss (fun i => a.tmps.getD i undef)) (h0 : I a.tmps a.defers w)
    (h : ∀ (u : Nat → Value) (ds : List Deferred) (W : World), I (setAll a.tmps ss u) ds W → c.wp P (Exit.then (fun a' W' => (a'.tmps = setAll a.tmps ss (fun i => a'.tmps.getD i undef) ∧ I a'.tmps a'.defers W') ∧ μ a'.tmps < μ (setAll a.tmps ss u)) Q) { tmps := setAll a.tmps ss u, defers := ds } W) : (Code.loop c).wp P Q a w := by
  refine wp_loop (fun a' W => a'.tmps = setAll a.tmps ss (fun i => a'.tmps.getD i undef) ∧ I a'.tmps a'.defers W) (fun a' _ => μ a'.tmps) ⟨hs, h0⟩ ?_
  rintro ⟨t, ds⟩ W ⟨h1, h2⟩
  have h3 : t = setAll a.tmps ss (fun i => t.getD i undef) := h1
  have h4 := h (fun i => t.getD i undef) ds W (by rw [← h3]; exact h2)
  rw [← h3] at h4
  exact h4
def ent (D : Nat) : Deferred := { target := .collected D, args := #[] }
/-- Deferred entries that nobody asked for are let go, one by one. -/
theorem leaves_ds {F : Fence} {n : Nat} {P : Program} {fn : Func} {tmps : Array Value} {R : Ending → World → Prop} : ∀ (Ds : List Nat) (W : World), Ds.Nodup → (∀ D ∈ Ds, W.heap[D]? = some (.deferred (some []))) →
    (∀ W', Fr (fun k => k ∈ Ds) W W' → LeavesIn F n P fn tmps R [] .returning W') → LeavesInM F n P fn tmps R (Ds.map ent) .returning W := by
  intro Ds
  induction Ds with
  | nil => intro W _ _ h; exact h W (Fr.refl _ _)
  | cons D Ds ih =>
    intro W hn hD h
    rw [List.nodup_cons] at hn
    refine ⟨by simp, .inl ⟨D, W.putObj D (.deferred none), rfl, run_takeDeferred (hD D (by simp)), ?_⟩⟩
    have f0 : Fr (fun k => k ∈ D :: Ds) W (W.putObj D (.deferred none)) := ⟨rfl, rfl, rfl, by simp, fun i hi hni => World.putObj_heap_other (by rintro rfl; exact hni (by simp))⟩
    refine ih _ hn.2 (fun E hE => ?_) (fun W' f => h W' (f0.trans f (fun i _ hi => List.mem_cons_of_mem _ hi)))
    exact (World.putObj_heap_other (by rintro rfl; exact hn.1 hE)).trans (hD E (List.mem_cons_of_mem _ hE))
/-- A range over a granule's lines, the loop's variable in a slot. -/
theorem rf_line {x : Int} {Q : Exit → Act → World → Prop} {g : Operand} {assign body : Code} {a : Act} {w w0 : World} {lb : Array Value} {pq : Nat} (pb : Nat) {S : Nat → Prop} {Sp : List (Two x) → Prop}
    (hg : a.eval g = .func (.func 21) #[] lb) (hseq : SeqStopsK Fence.wide (3 - 1) Try.prog 21 lb (fun v : Two x => #[Value.int .i64 v.1]) (Fr S) (fun xs => xs = [t0 x, t1 x]) Sp 2 w0)
    (hS : ∀ k, w.heap.size ≤ k → S k) (hb0 : Below w0.heap.size w0 w) (I : List (Two x) → World → Prop) (Ix : List (Two x) → World → Prop) (hI : OwnFrom w.heap.size I) (hIx : OwnFrom w.heap.size Ix) (h0 : I [] w)
    (hassign : ∀ (l : Nat) (pre : List (Two x)) (v : Two x) (W : World) (K : Act → World → Prop), I pre W → K { tmps := (a.tmps.setIfInBounds pq (.int .i64 v.1)).setIfInBounds pb (.int .i64 v.1), defers := [] } W →
      assign.wpIn (Fence.wide.inRound l) (3 - 1 - 1) Try.prog (Exit.then K (fun _ _ _ => False)) { tmps := a.tmps.setIfInBounds pq (.int .i64 v.1), defers := [] } W)
    (hbody : ∀ (l : Nat) (pre : List (Two x)) (v : Two x) (W : World), w.heap.size ≤ l → (∃ r, W.heap[l]? = some (.loop r)) → I pre W → pre.length < 2 →
      body.wpIn (Fence.wide.inRound l) (3 - 1 - 1) Try.prog (ownPostG w.heap.size (Fr S) I (fun _ => Ix) (pre ++ [v]) W) { tmps := (a.tmps.setIfInBounds pq (.int .i64 v.1)).setIfInBounds pb (.int .i64 v.1), defers := [] } W)
    (hdone : ∀ (D : Nat) (W : World), w.heap.size ≤ D → I [t0 x, t1 x] W → W.heap[D]? = some (.deferred (some [])) → Q .normal { a with defers := ent D :: a.defers } W)
    (hstop : ∀ (D : Nat) (c : Code) (pre : List (Two x)) (W : World), w.heap.size ≤ D → Sp pre → Ix pre W → W.heap[D]? = some (.deferred (some [])) → c.wpIn Fence.wide 3 Try.prog Q { a with defers := ent D :: a.defers } W) :
    (Code.rangeFunc g #[pq] assign body).wpIn Fence.wide 3 Try.prog Q a w := by
  refine wpIn_rangeFunc_ownH rfl (by omega) hg trivial (enters_of Try.func21 (by kernel_rfl) rfl) hseq (fun h k => h.trans k (fun _ _ h => h)) (fun W l o o' hl _ _ _ => ⟨rfl, rfl, rfl, by simp, fun i hi hn => World.putObj_heap_other (by rintro rfl; exact hn (hS _ hl))⟩) hb0 (fun _ => rfl)
    I (fun _ => Ix) hI (fun _ => hIx) h0
    (fun v a' W => a' = ({ tmps := (a.tmps.setIfInBounds pq (.int .i64 v.1)).setIfInBounds pb (.int .i64 v.1), defers := [] } : Act)) ?_ ?_ ?_ ?_ ?_
  · rintro v a' _ A A' row h hg hr
    exact h
  · intro l pre v W K hi hK
    have e : (#[pq].zip #[Value.int .i64 v.1]).foldl (fun t (p, v) => t.setIfInBounds p v) a.tmps = a.tmps.setIfInBounds pq (.int .i64 v.1) := by
      simp [← Array.foldl_toList]
    rw [e]
    exact hassign l pre v W K hi (hK _ _ (KeepsFrom.refl _ _) (Fr.refl _ _) hi rfl)
  · rintro l pre v a' W hl hr hi rfl hlt
    exact hbody l pre v W hl hr hi hlt
  · rintro D xs W hD rfl hi hK
    exact hdone D W hD hi hK
  · intro D c pre W hD hp hi hK
    exact hstop D c pre W hD hp hi hK
end Go.Proofs.Ytgdbjkkhmamdmaa
