/- made, walked. -/
import Derived.Test.YtdpdofdfdjcpoaaF
import Derived.Test.YtdpdofdfdjcpoaaG
import Derived.WalkKit
import Derived.WalkSpells
import Derived.ProofKit
import Derived.Outline
import Derived.Handy
import Derived.RowKit3
import Derived.BigQuiet
import Derived.Deep.QuietTactic
import Derived.Deep.RegionHeld3
import Derived.Deep.Draws
import Derived.RegionTactic
import Derived.BigRegion
import Derived.IntWalk
import Derived.LoopTactic
import Derived.OwnWalk
import Derived.Laws.AppendOwn
import Derived.Laws.OwnMore
import Derived.Laws.MakeOwn
import Derived.Laws.Pointers
import Derived.Maps.AppendAt
import Derived.Below
namespace Go.Proofs.Ytdpdofdfdjcpoaa
open Go.RowKit
set_option linter.unusedVariables false
set_option maxRecDepth 100000

def okOp (n : Nat) (G X : Nat → Int) (k : Nat) : Bool := decide (0 ≤ G k ∧ G k < n ∧ 0 ≤ X k ∧ X k ≤ 4)
def stO (n : Nat) (G X : Nat → Int) : Nat → Nat → Int
  | 0 => fun _ => 0
  | k + 1 => if okOp n G X k then upd (stO n G X k) (G k).toNat (X k) else stO n G X k
def stL (n : Nat) (G X : Nat → Int) (B : Nat → Bool) : Nat → Nat → Bool
  | 0 => fun _ => false
  | k + 1 => if okOp n G X k then upd (stL n G X B k) (G k).toNat (B k) else stL n G X B k
theorem stO_yes {n : Nat} {G X : Nat → Int} {k g : Nat} (h : okOp n G X k = true) (hg : G k = g) : stO n G X (k + 1) = upd (stO n G X k) g (X k) := by
  show (if okOp n G X k = true then _ else _) = _
  rw [if_pos h, hg]; rfl
theorem stL_yes {n : Nat} {G X : Nat → Int} {B : Nat → Bool} {k g : Nat} (h : okOp n G X k = true) (hg : G k = g) : stL n G X B (k + 1) = upd (stL n G X B k) g (B k) := by
  show (if okOp n G X k = true then _ else _) = _
  rw [if_pos h, hg]; rfl
theorem stO_no {n : Nat} {G X : Nat → Int} {k : Nat} (h : okOp n G X k = false) : stO n G X (k + 1) = stO n G X k := by
  show (if okOp n G X k = true then _ else _) = _
  rw [if_neg (by simp [h])]
theorem stL_no {n : Nat} {G X : Nat → Int} {B : Nat → Bool} {k : Nat} (h : okOp n G X k = false) : stL n G X B (k + 1) = stL n G X B k := by
  show (if okOp n G X k = true then _ else _) = _
  rw [if_neg (by simp [h])]
theorem stO_in (n : Nat) (G X : Nat → Int) : ∀ k j, 0 ≤ stO n G X k j ∧ stO n G X k j ≤ 4
  | 0, j => by simp [stO]
  | k + 1, j => by
    cases h : okOp n G X k
    · rw [stO_no h]; exact stO_in n G X k j
    · have hh := of_decide_eq_true h
      rw [stO_yes h (g := (G k).toNat) (by omega)]
      unfold upd
      split
      · omega
      · exact stO_in n G X k j
def OpsIn (w : World) (av : Option Addr) (L : Nat) (G X : Nat → Int) (B : Nat → Bool) : Prop :=
  L = 0 ∨ ∃ b off, av = some ⟨b, off, none⟩ ∧ b < w.heap.size ∧ ∀ i, i < L → w.cell? ⟨b, off + i * 3, none⟩ = some (.int .i64 (G i)) ∧ w.cell? ⟨b, off + i * 3 + 1, none⟩ = some (.int .i64 (X i)) ∧ w.cell? ⟨b, off + i * 3 + 2, none⟩ = some (.bool (B i))
/-- The reference's entries, in block R. -/
def Rw (w : World) (R n : Nat) (o : Nat → Int) (l : Nat → Bool) : Prop :=
  R < w.heap.size ∧ ∀ j, j < n → w.cell? ⟨R, j * 2, none⟩ = some (.int .i64 (o j)) ∧ w.cell? ⟨R, j * 2 + 1, none⟩ = some (.bool (l j)) ∧ w.frozen? ⟨R, j * 2, none⟩ = false ∧ w.frozen? ⟨R, j * 2 + 1, none⟩ = false
theorem Rw.next {w w' : World} {R n : Nat} {o : Nat → Int} {l : Nat → Bool} (h : Rw w R n o l) (hb : Below w.heap.size w w') : Rw w' R n o l := by
  obtain ⟨h2, h5⟩ := h
  exact ⟨Nat.lt_of_lt_of_le h2 hb.size, fun j hj => ⟨cell_next hb h2 (h5 j hj).1, cell_next hb h2 (h5 j hj).2.1, (hb.frozen (p := ⟨R, j * 2, none⟩) h2).trans (h5 j hj).2.2.1, (hb.frozen (p := ⟨R, j * 2 + 1, none⟩) h2).trans (h5 j hj).2.2.2⟩⟩
theorem Rw.set {w : World} {R n : Nat} {o : Nat → Int} {l : Nat → Bool} (h : Rw w R n o l) {j : Nat} (hj : j < n) (x : Int) (b : Bool) :
    Rw ((w.setCell ⟨R, j * 2, none⟩ (.int .i64 x)).setCell ⟨R, j * 2 + 1, none⟩ (.bool b)) R n (upd o j x) (upd l j b) := by
  obtain ⟨h2, h5⟩ := h
  have c0 := (h5 j hj).1
  have c1 := (h5 j hj).2.1
  have s0 : (w.setCell ⟨R, j * 2, none⟩ (.int .i64 x)).cell? ⟨R, j * 2, none⟩ = some (.int .i64 x) := World.cell?_setCell_same' _ _ _ (by rw [c0]; rfl)
  have s1 : (w.setCell ⟨R, j * 2, none⟩ (.int .i64 x)).cell? ⟨R, j * 2 + 1, none⟩ = some (.bool (l j)) := by rw [setCell_cell_other (by simp)]; exact c1
  refine ⟨by simpa [World.setCell] using h2, fun i hi => ?_⟩
  obtain ⟨a1, a2, a3, a4⟩ := h5 i hi
  refine ⟨?_, ?_, by simpa [World.frozen?_setCell] using a3, by simpa [World.frozen?_setCell] using a4⟩
  · by_cases e : i = j
    · subst e
      rw [setCell_cell_other (by simp), s0]
      simp [upd]
    · rw [setCell_cell_other (by intro q; injection q with q1 q2; omega), setCell_cell_other (by intro q; injection q with q1 q2; omega), a1]
      simp [upd, e]
  · by_cases e : i = j
    · subst e
      rw [World.cell?_setCell_same' _ _ _ (by rw [s1]; rfl)]
      simp [upd]
    · rw [setCell_cell_other (by intro q; injection q with q1 q2; omega), setCell_cell_other (by intro q; injection q with q1 q2; omega), a2]
      simp [upd, e]
/-- What is in other blocks than the one that is written. -/
theorem Rw.only {w w' : World} {R E n : Nat} {o : Nat → Int} {l : Nat → Bool} (h : Rw w R n o l) (hg : w.grownBy w' (some E)) (hne : R ≠ E) : Rw w' R n o l := by
  obtain ⟨h2, h5⟩ := h
  have hbl : w'.heap[R]? = w.heap[R]? := hg.block R h2 (fun e => hne (by injection e))
  exact ⟨Nat.lt_of_lt_of_le h2 hg.size, fun j hj => ⟨(World.cell?_of_block (a := ⟨R, j * 2, none⟩) hbl).trans (h5 j hj).1, (World.cell?_of_block (a := ⟨R, j * 2 + 1, none⟩) hbl).trans (h5 j hj).2.1, (World.frozen?_of_block (a := ⟨R, j * 2, none⟩) hbl).trans (h5 j hj).2.2.1, (World.frozen?_of_block (a := ⟨R, j * 2 + 1, none⟩) hbl).trans (h5 j hj).2.2.2⟩⟩
theorem Tb.only {w w' : World} {P R E n : Nat} {o : Nat → Int} {l : Nat → Bool} (h : Tb w P E n o l) (hg : w.grownBy w' (some R)) (hP : P ≠ R) (hE : E ≠ R) : Tb w' P E n o l := by
  obtain ⟨h1, h2, h3, h4, h5⟩ := h
  have hbP : w'.heap[P]? = w.heap[P]? := hg.block P h1 (fun e => hP (by injection e))
  have hbE : w'.heap[E]? = w.heap[E]? := hg.block E h2 (fun e => hE (by injection e))
  exact ⟨Nat.lt_of_lt_of_le h1 hg.size, Nat.lt_of_lt_of_le h2 hg.size, h3, h4.imp fun cp h => ⟨h.1, (World.cell?_of_block (a := ⟨P, 0, none⟩) hbP).trans h.2⟩, fun j hj => ⟨(World.cell?_of_block (a := ⟨E, j * 2, none⟩) hbE).trans (h5 j hj).1, (World.cell?_of_block (a := ⟨E, j * 2 + 1, none⟩) hbE).trans (h5 j hj).2.1, (World.frozen?_of_block (a := ⟨E, j * 2, none⟩) hbE).trans (h5 j hj).2.2.1, (World.frozen?_of_block (a := ⟨E, j * 2 + 1, none⟩) hbE).trans (h5 j hj).2.2.2⟩⟩
theorem rw_new (w : World) (n : Nat) : Rw (w.alloc (.cells (madeCells #[.int .i64 0, .bool false] (n * 2)) 56)) w.heap.size n (fun _ => 0) (fun _ => false) := by
  refine ⟨by simp, fun j hj => ?_⟩
  have a0 := made_cell n (j * 2) (by omega)
  have a1 := made_cell n (j * 2 + 1) (by omega)
  rw [if_pos (by omega)] at a0
  rw [if_neg (by omega)] at a1
  exact ⟨(World.cell?_alloc_new _ _ _ _).trans a0, (World.cell?_alloc_new _ _ _ _).trans a1, World.frozen?_alloc_new _ _ _ _, World.frozen?_alloc_new _ _ _ _⟩
theorem info56 : (Try.prog.info? 56).map (fun i => (i.zero, i.size, i.bytes)) = some (some (.agg #[.int .i64 0, .bool false]), 2, 16) := by kernel_rfl
theorem entry_any (x : Int) (b : Bool) (w : World) : Calls Try.prog 24 #[.agg #[.int .i64 x, .bool b]] w fun r w' => r = .returned (.agg #[.int .i64 x, .bool b]) ∧ Below w.heap.size w w' := by
  go_enter Try.func24, Try.ntmps24
  go_wp2
  exact bodyPost_ret (v := .agg #[.int .i64 x, .bool b]) (by simp [results, Try.results24, go_sem]) rfl ⟨rfl, by repeat (first | exact Below.refl _ _ | refine below_drew0 ?_ | refine Below.setCell ?_ (by simp) _ | refine Below.alloc ?_ (by simp) _)⟩
def MRel (n P E R : Nat) (G X : Nat → Int) (B : Nat → Bool) (L : Nat) (w : World) (v : Value) (wr : World) : Prop :=
  ∃ k : Nat, k ≤ L ∧ v = .int .i64 k ∧ Tb wr P E n (stO n G X k) (stL n G X B k) ∧ Rw wr R n (stO n G X k) (stL n G X B k) ∧ Below w.heap.size w wr
def valAt (W : World) (R i : Nat) : Value := (W.cell? ⟨R, i, none⟩).getD (.bool false)
theorem valAt_of {W : World} {R i : Nat} {v : Value} (h : W.cell? ⟨R, i, none⟩ = some v) : W.cell? ⟨R, i, none⟩ = some (valAt W R i) := by simp [valAt, h]
def XS (b off : Nat) (a x : Int) (l : Bool) (W : World) : Prop :=
  W.cell? ⟨b, off, none⟩ = some (.int .i64 a) ∧ W.cell? ⟨b, off + 1, none⟩ = some (.int .i64 x) ∧ W.cell? ⟨b, off + 1 + 1, none⟩ = some (.bool l)
def HS (B0 b off R g : Nat) (a x : Int) (l : Bool) (w W : World) : Prop :=
  W.cell? ⟨b, off, none⟩ = some (.int .i64 a) ∧ W.cell? ⟨b, off + 1, none⟩ = some (.int .i64 x) ∧ W.cell? ⟨b, off + 1 + 1, none⟩ = some (.bool l) ∧ W.cell? ⟨R, g * 2, none⟩ = some (valAt W R (g * 2)) ∧ W.cell? ⟨R, g * 2 + 1, none⟩ = some (valAt W R (g * 2 + 1)) ∧ W.frozen? ⟨R, g * 2, none⟩ = false ∧ W.frozen? ⟨R, g * 2 + 1, none⟩ = false ∧ Below B0 w W ∧ R < W.heap.size
theorem HS.next {B0 b off R g : Nat} {a x : Int} {l : Bool} {w W w' : World} (hb : b < W.heap.size) (hB : B0 ≤ W.heap.size) (h : HS B0 b off R g a x l w W) (k : Below W.heap.size W w') : HS B0 b off R g a x l w w' := by
  obtain ⟨h0, h1, h2, h3, h4, h5, h6, h7, h8⟩ := h
  exact ⟨cell_next k hb h0, cell_next k hb h1, cell_next k hb h2, valAt_of (cell_next k h8 h3), valAt_of (cell_next k h8 h4), (k.frozen (p := ⟨R, g * 2, none⟩) h8).trans h5, (k.frozen (p := ⟨R, g * 2 + 1, none⟩) h8).trans h6, h7.trans (k.mono hB), Nat.lt_of_lt_of_le h8 k.size⟩
theorem cell_some {W : World} {p : Addr} {v : Value} (h : W.cell? p = some v) : (W.cell? p).isSome := by rw [h]; rfl
theorem HS.set {B0 b off R g : Nat} {a x : Int} {l : Bool} {w W : World} (hne : b ≠ R) (hB : B0 ≤ R) (u v : Value) (h : HS B0 b off R g a x l w W) : HS B0 b off R g a x l w ((W.setCell ⟨R, g * 2, none⟩ u).setCell ⟨R, g * 2 + 1, none⟩ v) := by
  obtain ⟨h0, h1, h2, h3, h4, h5, h6, h7, h8⟩ := h
  have o : ∀ i, ((W.setCell ⟨R, g * 2, none⟩ u).setCell ⟨R, g * 2 + 1, none⟩ v).cell? ⟨b, i, none⟩ = W.cell? ⟨b, i, none⟩ := fun i => by
    rw [setCell_cell_other (by intro e; injection e with e1 e2; exact hne e1), setCell_cell_other (by intro e; injection e with e1 e2; exact hne e1)]
  have s0 : (W.setCell ⟨R, g * 2, none⟩ u).cell? ⟨R, g * 2, none⟩ = some u := World.cell?_setCell_same' _ _ _ (by rw [h3]; rfl)
  have s1 : (W.setCell ⟨R, g * 2, none⟩ u).cell? ⟨R, g * 2 + 1, none⟩ = some (valAt W R (g * 2 + 1)) := by rw [setCell_cell_other (by simp)]; exact h4
  refine ⟨(o _).trans h0, (o _).trans h1, (o _).trans h2, valAt_of (v := u) ?_, valAt_of (v := v) (World.cell?_setCell_same' _ _ _ (by rw [s1]; rfl)), by simpa [World.frozen?_setCell] using h5, by simpa [World.frozen?_setCell] using h6, (h7.setCell hB u).setCell hB v, by simpa [World.setCell] using h8⟩
  rw [setCell_cell_other (by simp)]
  exact s0
theorem HS.below {B0 b off R g : Nat} {a x : Int} {l : Bool} {w W : World} (h : HS B0 b off R g a x l w W) : Below B0 w W := h.2.2.2.2.2.2.2.1
theorem HS.size {b off R g : Nat} {a x : Int} {l : Bool} {w W : World} (h : HS w.heap.size b off R g a x l w W) : w.heap.size ≤ W.heap.size := h.below.size
theorem xs_next {b off : Nat} {a x : Int} {l : Bool} {w W w' : World} (hb : b < w.heap.size) (h : W.cell? ⟨b, off, none⟩ = some (.int .i64 a) ∧ W.cell? ⟨b, off + 1, none⟩ = some (.int .i64 x) ∧ W.cell? ⟨b, off + 1 + 1, none⟩ = some (.bool l) ∧ Below w.heap.size w W) (k : Below W.heap.size W w') :
    w'.cell? ⟨b, off, none⟩ = some (.int .i64 a) ∧ w'.cell? ⟨b, off + 1, none⟩ = some (.int .i64 x) ∧ w'.cell? ⟨b, off + 1 + 1, none⟩ = some (.bool l) ∧ Below w.heap.size w w' := by
  obtain ⟨h0, h1, h2, h3⟩ := h
  have hb' := Nat.lt_of_lt_of_le hb h3.size
  exact ⟨cell_next k hb' h0, cell_next k hb' h1, cell_next k hb' h2, below_step h3 h3.size k⟩
theorem xs_only {b off E : Nat} {a x : Int} {l : Bool} {w W w' : World} (hb : b < w.heap.size) (hE : w.heap.size ≤ E) (hne : b ≠ E) (h : W.cell? ⟨b, off, none⟩ = some (.int .i64 a) ∧ W.cell? ⟨b, off + 1, none⟩ = some (.int .i64 x) ∧ W.cell? ⟨b, off + 1 + 1, none⟩ = some (.bool l) ∧ Below w.heap.size w W) (k : W.grownBy w' (some E)) :
    w'.cell? ⟨b, off, none⟩ = some (.int .i64 a) ∧ w'.cell? ⟨b, off + 1, none⟩ = some (.int .i64 x) ∧ w'.cell? ⟨b, off + 1 + 1, none⟩ = some (.bool l) ∧ Below w.heap.size w w' := by
  obtain ⟨h0, h1, h2, h3⟩ := h
  have hb' := Nat.lt_of_lt_of_le hb h3.size
  have hbl : w'.heap[b]? = W.heap[b]? := k.block b hb' (fun e => hne (by injection e))
  exact ⟨(World.cell?_of_block (a := ⟨b, off, none⟩) hbl).trans h0, (World.cell?_of_block (a := ⟨b, off + 1, none⟩) hbl).trans h1, (World.cell?_of_block (a := ⟨b, off + 1 + 1, none⟩) hbl).trans h2, h3.grown k h3.size (fun j hj => by injection hj with hj; omega)⟩
theorem xs_below {b off : Nat} {a x : Int} {l : Bool} {w W : World} (h : W.cell? ⟨b, off, none⟩ = some (.int .i64 a) ∧ W.cell? ⟨b, off + 1, none⟩ = some (.int .i64 x) ∧ W.cell? ⟨b, off + 1 + 1, none⟩ = some (.bool l) ∧ Below w.heap.size w W) : Below w.heap.size w W := h.2.2.2
theorem rw_drew {w : World} {R n : Nat} {o : Nat → Int} {l : Nat → Bool} (h : Rw w R n o l) : Rw w.drew R n o l := h
theorem held_next {b off R g : Nat} {a x : Int} {l : Bool} {w W w' : World} (hb : b < w.heap.size) (h : HS w.heap.size b off R g a x l w W) (k : Below W.heap.size W w') : HS w.heap.size b off R g a x l w w' :=
  h.next (Nat.lt_of_lt_of_le hb h.size) h.size k

set_option maxHeartbeats 8000000 in
theorem made_any (n : Nat) (h1 : 1 ≤ n) (hn : n ≤ 16) (av : Option Addr) (L c : Nat) (hL : L ≤ 40) (G X : Nat → Int) (B : Nat → Bool) (w : World) (hl : OpsIn w av L G X B) :
    Calls Try.prog 11 #[.int .i64 n, .slice av L c] w fun r w' => ∃ P E R, r = .returned (.tuple #[.pointer (some ⟨P, 0, none⟩), .slice (some ⟨R, 0, none⟩) n n, .bool true]) ∧ Tb w' P E n (stO n G X L) (stL n G X B L) ∧ Rw w' R n (stO n G X L) (stL n G X B L) ∧ w.heap.size ≤ P ∧ w.heap.size ≤ E ∧ w.heap.size ≤ R ∧ P ≠ R ∧ E ≠ R ∧ Below w.heap.size w w' := by
  obtain ⟨i0, hi, hz0, hz1, hz2⟩ := info_parts info56
  have hmk := fun W => run_make_rowN (P := Try.prog) 28 56 i0 (.agg #[.int .i64 0, .bool false]) Try.underlying28 hi hz0 .i64 .i64 n n (Nat.le_refl _) (by rw [hz2]; omega) (by omega) W
  replace hl := hide hl
  go_enter Try.func11, Try.ntmps11
  go_wp2_with fail
  refine (new_yes n h1 hn _).mono ?_
  rintro r w1 ⟨P, E, rfl, hP, hE, hT, hb1⟩
  replace hT := hide hT
  go_wp2
  have hPR : P ≠ w1.heap.size := by have := hT.out.1; omega
  have hER : E ≠ w1.heap.size := by have := hT.out.2.1; omega
  go_loopw [10] (fun v10 wr => MRel n P E w1.heap.size G X B L w v10 wr) (fun v10 _ => L - (intOf v10).toNat)
  case atStart =>
    refine ⟨0, Nat.zero_le _, rfl, hT.out.alloc _, ?_, hb1.alloc hb1.size _⟩
    have := rw_new w1 n
    simpa [stO, stL, hz1] using this
  case round =>
    obtain ⟨k, hk, rfl, hTr, hR, hB⟩ := hrel
    have T1 := hide hTr
    have R1 := hide hR
    by_cases hlt : k < L
    · rcases hl.out with h0 | ⟨b, off, rfl, hbl, hops⟩
      · omega
      obtain ⟨y0, y1, y2⟩ := hops k hlt
      clear hops
      have x0 := cell_next hB hbl y0
      have x1 := cell_next hB hbl y1
      have x2 := cell_next hB hbl y2
      have hbr : b < wr.heap.size := Nat.lt_of_lt_of_le hbl hB.size
      clear y0 y1 y2 hTr
      by_cases hok : 0 ≤ G k ∧ G k < n ∧ 0 ≤ X k ∧ X k ≤ 4
      · have OK := hide (show okOp n G X k = true from decide_eq_true hok)
        obtain ⟨g, hg⟩ : ∃ g : Nat, G k = g := ⟨(G k).toNat, by omega⟩
        obtain ⟨q0, q1, q2, q3⟩ := hok
        have hgn : g < n := by omega
        obtain ⟨s1, s2⟩ := hR
        obtain ⟨r0, r1, r2, r3⟩ := s2 g hgn
        clear s2
        rw [hg] at x0
        have HG := hide hg
        clear hg q0 q1
        have x2' : wr.cell? ⟨b, off + k * 3 + 1 + 1, none⟩ = some (.bool (B k)) := x2
        go_wp2_with fail
        have hs0 : HS w.heap.size b (off + k * 3) w1.heap.size g g (X k) (B k) w wr := ⟨x0, x1, x2', valAt_of r0, valAt_of r1, r2, r3, hB, s1⟩
        have hbR : b ≠ w1.heap.size := by have := hb1.size; omega
        have hbE : b ≠ E := by omega
        go_region_held3 (fun W => W.cell? ⟨b, off + k * 3, none⟩ = some (.int .i64 g) ∧ W.cell? ⟨b, off + k * 3 + 1, none⟩ = some (.int .i64 (X k)) ∧ W.cell? ⟨b, off + k * 3 + 1 + 1, none⟩ = some (.bool (B k)) ∧ W.cell? ⟨w1.heap.size, g * 2, none⟩ = some (valAt W w1.heap.size (g * 2)) ∧ W.cell? ⟨w1.heap.size, g * 2 + 1, none⟩ = some (valAt W w1.heap.size (g * 2 + 1)) ∧ W.frozen? ⟨w1.heap.size, g * 2, none⟩ = false ∧ W.frozen? ⟨w1.heap.size, g * 2 + 1, none⟩ = false ∧ Below w.heap.size w W ∧ w1.heap.size < W.heap.size)
          (first | assumption | exact held_next hbl (by assumption) hb | exact HS.set hbR hb1.size _ _ (by assumption) | exact held_next hbl hs0 (below_drew0 (Below.refl _ _)))
          (first | (go_at_call 24; refine (entry_any _ _ _).mono ?_; rintro r w' ⟨rfl, hb⟩))
        have hb' : Below wr.heap.size wr w' := (below_drew0 (Below.refl wr.heap.size wr)).trans hb
        have hq : HS w.heap.size b (off + k * 3) w1.heap.size g g (X k) (B k) w ((w'.setCell ⟨w1.heap.size, g * 2, none⟩ (.int .i64 (X k))).setCell ⟨w1.heap.size, g * 2 + 1, none⟩ (.bool (B k))) := by assumption
        have hT2 : Tb ((w'.setCell ⟨w1.heap.size, g * 2, none⟩ (.int .i64 (X k))).setCell ⟨w1.heap.size, g * 2 + 1, none⟩ (.bool (B k))) P E n (stO n G X k) (stL n G X B k) := (T1.out.next hb').only (only_setCell (p := ⟨w1.heap.size, g * 2 + 1, none⟩) (only_setCell (p := ⟨w1.heap.size, g * 2, none⟩) (only_refl _ _) (.inl rfl) _) (.inl rfl) _) hPR hER
        have hR2 : Rw ((w'.setCell ⟨w1.heap.size, g * 2, none⟩ (.int .i64 (X k))).setCell ⟨w1.heap.size, g * 2 + 1, none⟩ (.bool (B k))) w1.heap.size n (upd (stO n G X k) g (X k)) (upd (stL n G X B k) g (B k)) := (R1.out.next hb').set hgn _ _
        rename_i hHeld
        clear hHeld
        generalize ((w'.setCell ⟨w1.heap.size, g * 2, none⟩ (.int .i64 (X k))).setCell ⟨w1.heap.size, g * 2 + 1, none⟩ (.bool (B k))) = W2 at hq hT2 hR2 ⊢
        obtain ⟨z0, z1, z2, -, -, -, -, hB2, -⟩ := hq
        have HX := hide (show decide (0 ≤ X k ∧ X k ≤ 4) = true from decide_eq_true ⟨q2, q3⟩)
        replace hT2 := hide hT2
        replace hR2 := hide hR2
        clear hb hb' x0 x1 x2 x2' r0 r1 r2 r3 hs0
        go_wp2_with fail
        go_region_held3 (fun W => W.cell? ⟨b, off + k * 3, none⟩ = some (.int .i64 g) ∧ W.cell? ⟨b, off + k * 3 + 1, none⟩ = some (.int .i64 (X k)) ∧ W.cell? ⟨b, off + k * 3 + 1 + 1, none⟩ = some (.bool (B k)) ∧ Below w.heap.size w W)
          (first | assumption | exact xs_only hbl hE hbE (by assumption) hg3 | exact ⟨z0, z1, z2, below_drew0 hB2⟩)
          (first | (go_at_call 14; refine (set_yes P E n g _ _ (X k) (B k) hgn HX.out _ (tb_drew hT2.out)).mono ?_; rintro r w3 ⟨rfl, hT3, hg3⟩))
        go_wp2
        go_roundw
        case rel => exact ⟨k + 1, by omega, int_eq (by omega), by rw [stO_yes OK.out HG.out, stL_yes OK.out HG.out]; exact hT3, by rw [stO_yes OK.out HG.out, stL_yes OK.out HG.out]; exact (Rw.only (rw_drew hR2.out) hg3 (fun e => hER e.symm)), xs_below (by assumption)⟩
        case measure => simp [intOf]; omega
      · have OK := hide (show okOp n G X k = false from decide_eq_false hok)
        have x2' : wr.cell? ⟨b, off + k * 3 + 1 + 1, none⟩ = some (.bool (B k)) := x2
        clear hR
        by_cases ho : 0 ≤ G k ∧ G k < n
        · have HX := hide (show decide (0 ≤ X k ∧ X k ≤ 4) = false from decide_eq_false (by omega))
          obtain ⟨g, hg⟩ : ∃ g : Nat, G k = g := ⟨(G k).toNat, by omega⟩
          have hgn : g < n := by omega
          have HG := hide hg
          rw [hg] at x0
          by_cases hx0 : 0 ≤ X k
          · have hx4 : ¬ X k ≤ 4 := by omega
            clear ho hok hg
            go_wp2_with fail
            go_region_held3 (fun W => W.cell? ⟨b, off + k * 3, none⟩ = some (.int .i64 g) ∧ W.cell? ⟨b, off + k * 3 + 1, none⟩ = some (.int .i64 (X k)) ∧ W.cell? ⟨b, off + k * 3 + 1 + 1, none⟩ = some (.bool (B k)) ∧ Below w.heap.size w W)
              (first | assumption | exact xs_next hbl (by assumption) hb3 | exact ⟨x0, x1, x2', below_drew0 hB⟩)
              (first | (go_at_call 14; refine (set_bad P E n g _ _ (X k) (B k) hgn HX.out _ (tb_drew T1.out)).mono ?_; rintro r w3 ⟨rfl, hb3⟩))
            go_wp2
            go_roundw
            case rel => exact ⟨k + 1, by omega, int_eq (by omega), by rw [stO_no OK.out, stL_no OK.out]; exact (tb_drew T1.out).next hb3, by rw [stO_no OK.out, stL_no OK.out]; exact (rw_drew R1.out).next hb3, xs_below (by assumption)⟩
            case measure => simp [intOf]; omega
          · clear ho hok hg
            go_wp2_with fail
            go_region_held3 (fun W => W.cell? ⟨b, off + k * 3, none⟩ = some (.int .i64 g) ∧ W.cell? ⟨b, off + k * 3 + 1, none⟩ = some (.int .i64 (X k)) ∧ W.cell? ⟨b, off + k * 3 + 1 + 1, none⟩ = some (.bool (B k)) ∧ Below w.heap.size w W)
              (first | assumption | exact xs_next hbl (by assumption) hb3 | exact ⟨x0, x1, x2', below_drew0 hB⟩)
              (first | (go_at_call 14; refine (set_bad P E n g _ _ (X k) (B k) hgn HX.out _ (tb_drew T1.out)).mono ?_; rintro r w3 ⟨rfl, hb3⟩))
            go_wp2
            go_roundw
            case rel => exact ⟨k + 1, by omega, int_eq (by omega), by rw [stO_no OK.out, stL_no OK.out]; exact (tb_drew T1.out).next hb3, by rw [stO_no OK.out, stL_no OK.out]; exact (rw_drew R1.out).next hb3, xs_below (by assumption)⟩
            case measure => simp [intOf]; omega
        · have HO := hide ho
          by_cases hx0 : 0 ≤ G k
          · have hx4 : ¬ G k < n := by omega
            clear ho hok
            go_wp2_with fail
            go_region_held3 (fun W => W.cell? ⟨b, off + k * 3, none⟩ = some (.int .i64 (G k)) ∧ W.cell? ⟨b, off + k * 3 + 1, none⟩ = some (.int .i64 (X k)) ∧ W.cell? ⟨b, off + k * 3 + 1 + 1, none⟩ = some (.bool (B k)) ∧ Below w.heap.size w W)
              (first | assumption | exact xs_next hbl (by assumption) hb3 | exact ⟨x0, x1, x2', below_drew0 hB⟩)
              (first | (go_at_call 14; refine (set_out P E n (G k) _ _ (X k) (B k) HO.out _ (tb_drew T1.out)).mono ?_; rintro r w3 ⟨rfl, hb3⟩))
            go_wp2
            go_roundw
            case rel => exact ⟨k + 1, by omega, int_eq (by omega), by rw [stO_no OK.out, stL_no OK.out]; exact (tb_drew T1.out).next hb3, by rw [stO_no OK.out, stL_no OK.out]; exact (rw_drew R1.out).next hb3, xs_below (by assumption)⟩
            case measure => simp [intOf]; omega
          · clear ho hok
            go_wp2_with fail
            go_region_held3 (fun W => W.cell? ⟨b, off + k * 3, none⟩ = some (.int .i64 (G k)) ∧ W.cell? ⟨b, off + k * 3 + 1, none⟩ = some (.int .i64 (X k)) ∧ W.cell? ⟨b, off + k * 3 + 1 + 1, none⟩ = some (.bool (B k)) ∧ Below w.heap.size w W)
              (first | assumption | exact xs_next hbl (by assumption) hb3 | exact ⟨x0, x1, x2', below_drew0 hB⟩)
              (first | (go_at_call 14; refine (set_out P E n (G k) _ _ (X k) (B k) HO.out _ (tb_drew T1.out)).mono ?_; rintro r w3 ⟨rfl, hb3⟩))
            go_wp2
            go_roundw
            case rel => exact ⟨k + 1, by omega, int_eq (by omega), by rw [stO_no OK.out, stL_no OK.out]; exact (tb_drew T1.out).next hb3, by rw [stO_no OK.out, stL_no OK.out]; exact (rw_drew R1.out).next hb3, xs_below (by assumption)⟩
            case measure => simp [intOf]; omega
    · obtain rfl : k = L := by omega
      clear hTr hR
      go_wp2
      exact bodyPost_ret (v := .tuple #[.pointer (some ⟨P, 0, none⟩), .slice (some ⟨w1.heap.size, 0, none⟩) n n, .bool true]) (by simp [results, Try.results11, go_sem]) rfl ⟨P, E, w1.heap.size, rfl, T1.out, R1.out, hP, hE, hb1.size, hPR, hER, hB⟩
end Go.Proofs.Ytdpdofdfdjcpoaa
