import Derived.Test.YtfiangiajhdhcaaDoorR1
import Derived.WalkKit
import Derived.WalkSpells
import Derived.ProofKit
import Derived.Outline
import Derived.Handy
import Derived.RowKit3
import Derived.BigQuiet
import Derived.Deep.QuietTactic
import Derived.Deep.RegionHeld3
import Derived.Deep.Draws
import Derived.Deep.RegionLaw
import Derived.RegionTactic
import Derived.BigRegion
import Derived.IntWalk
import Derived.LoopTactic
import Derived.OwnWalk
import Derived.Laws.AppendOwn
import Derived.Laws.OwnMore
import Derived.Laws.MakeOwn
import Derived.Laws.Pointers
import Derived.Maps.AppendAt
import Derived.Deep.AppendLies
import Derived.Below
import Derived.RangeFuncNested
import Derived.RangeFuncBound
import Derived.RangeFuncCalls
import Derived.RangeFuncLeaves
import Derived.Shelf.Abstract
import Derived.LoopNIn
import Derived.LoopIn
import Derived.OwnWalkIn
import Derived.TacticsInMore
import Derived.Shelf.RegionOpen
import Derived.Laws.ResultCell
import Derived.Laws.ResultCell
namespace Go.Proofs.YtfiangiajhdhcaaDoor
open Go.Shelf Go.RowKit
set_option linter.unusedVariables false
set_option maxRecDepth 100000

/-! ### The law that Run is Local again and again -/
theorem evC_len (p : Pg) (no : Int) (σ : Nat → Int) : (evC p no σ).length = 7 := rfl
theorem evCs_len (p : Pg) (no : Int) (σ : Nat → Int) : ∀ k, (evCs p no σ k).length = k * 7
  | 0 => rfl
  | k + 1 => by simp only [evCs, List.length_append, evCs_len p no σ k, evC_len]; omega
theorem evCs_at (p : Pg) (no : Int) (σ : Nat → Int) : ∀ (k j i : Nat), j < k → i < 7 → (evCs p no σ k)[j * 7 + i]? = some (.int .i64 (evt p no (itS p no σ j) i))
  | 0, j, i, h, _ => absurd h (Nat.not_lt_zero _)
  | k + 1, j, i, h, hi => by
    simp only [evCs]
    by_cases e : j = k
    · subst e
      rw [List.getElem?_append_right (by rw [evCs_len]; omega), evCs_len, Nat.add_sub_cancel_left]
      have c7 : i = 0 ∨ i = 1 ∨ i = 2 ∨ i = 3 ∨ i = 4 ∨ i = 5 ∨ i = 6 := by omega
      rcases c7 with rfl | rfl | rfl | rfl | rfl | rfl | rfl <;> rfl
    · rw [List.getElem?_append_left (by rw [evCs_len]; omega)]
      exact evCs_at p no σ k j i (by omega) hi
theorem owns_slice {w : World} {base e size n : Nat} {v : Value} {xs : List Value} (h : w.ownsRow base e size v n xs) : ∃ va vc, v = .slice va n vc ∧ (0 < n → ∃ g, va = some ⟨g, 0, none⟩) := by
  obtain ⟨_, ⟨rfl, rfl⟩ | ⟨g, cap, cur, rfl, r⟩⟩ := h
  · exact ⟨none, 0, rfl, fun h => absurd h (Nat.lt_irrefl _)⟩
  · exact ⟨_, cap, rfl, fun _ => ⟨g, rfl⟩⟩
theorem CoAt.other {p : Pg} {σ τ : Nat → Int} {no : Int} {P P' : Nat} {q : Place} {w w' : World} {S : Nat → Prop} (h : CoAt p σ no P q w) (g : CoAt p τ no P' q w') (f : Fr S w w') (hP : ¬ S P) : CoAt p σ no P q w' :=
  ⟨h.core.mono (.refl _) (fun k hk => by have e : P = k := hk; subst e; exact f.block P h.lt hP), g.prog, h.apart, h.p0, h.q0⟩
def AwOk (w : World) : Prop := ∀ w', Below w.heap.size w w' → Calls Tryd.prog 36 #[] w' fun e w'' => e = .returned (.bool true) ∧ Below w'.heap.size w' w''
/-- While the twin goes the same way. -/
structure TwRel (p : Pg) (no : Int) (σ : Nat → Int) (P P' bs : Nat) (q : Place) (w : World) (v : Value) (k j : Nat) (wr : World) : Prop where
  co : CoAt p (itS p no σ j) no P' q wr
  me : CoAt p (itS p no σ k) no P q wr
  own : wr.ownsRow bs 54 7 v k (evCs p no σ k)
  tabs : ∀ τ no, TabsIn (stE p τ no) 9 tsY15 wr
  below : Below w.heap.size w wr
/-- A core and its twin, ahead of Run. -/
structure Two (p : Pg) (no : Int) (σ : Nat → Int) (P P' : Nat) (q : Place) (w W : World) : Prop where
  me : CoAt p σ no P q W
  tw : CoAt p σ no P' q W
  tabs : ∀ τ no, TabsIn (stE p τ no) 9 tsY15 W
  below : Below w.heap.size w W
  ne : P ≠ P'
  hP : w.heap.size ≤ P
  hP' : w.heap.size ≤ P'
  hF : ∀ g, p.F q g → w.heap.size ≤ g
section
variable {w w1 : World} {P : Nat} {wd no : Int} {ov : Bool} {av : Option Addr} {L c : Nat} {A B C D : Nat → Int}
theorem two_start (H1 : Co w1 P 0 0 0 0 0 wd ov no av L c A B C D) (K1 : Blk w1 P) (B1 : Below w.heap.size w w1) (HA : ∀ a, av = some a → w.heap.size ≤ a.block ∧ a.block < w1.heap.size) (hT : ∀ (p : Pg) τ no, TabsIn (stE p τ no) 9 tsY15 w) (w0 : 0 < w.heap.size) (hP : w.heap.size ≤ P) (x : Obj) :
    Two ⟨L, A, B, C, D⟩ no (stC 0 0 0 0 0 wd ov) P w1.heap.size ⟨0, 0, 0, .slice av L c⟩ w ((w1.alloc (.cells #[.int .i64 0, .int .i64 0, .int .i64 0, .int .i64 0, .int .i64 0, .int .i64 wd, .bool ov, .int .i64 no, .slice av L c] 79)).alloc x) := by
  have n1 := (Below.refl w1.heap.size w1).alloc (Nat.le_refl _) (.cells #[.int .i64 0, .int .i64 0, .int .i64 0, .int .i64 0, .int .i64 0, .int .i64 wd, .bool ov, .int .i64 no, .slice av L c] 79)
  have n2 := n1.alloc (by simp) x
  have n3 := (Below.refl _ (w1.alloc (.cells #[.int .i64 0, .int .i64 0, .int .i64 0, .int .i64 0, .int .i64 0, .int .i64 wd, .bool ov, .int .i64 no, .slice av L c] 79))).alloc (Nat.le_refl _) x
  have hs := B1.size
  have hPl := H1.hP
  have tco : Co (w1.alloc (.cells #[.int .i64 0, .int .i64 0, .int .i64 0, .int .i64 0, .int .i64 0, .int .i64 wd, .bool ov, .int .i64 no, .slice av L c] 79)) w1.heap.size 0 0 0 0 0 wd ov no av L c A B C D := by
    refine ⟨by simp, World.cell?_alloc_new w1 _ 79 0, World.cell?_alloc_new w1 _ 79 1, World.cell?_alloc_new w1 _ 79 2, World.cell?_alloc_new w1 _ 79 3, World.cell?_alloc_new w1 _ 79 4, World.cell?_alloc_new w1 _ 79 5, World.cell?_alloc_new w1 _ 79 6, World.cell?_alloc_new w1 _ 79 7, World.cell?_alloc_new w1 _ 79 8, fun i => World.frozen?_alloc_new w1 _ 79 i, H1.ops.next n1, fun a e => ?_, H1.le⟩
    have := (HA a e).2
    omega
  have tb : Blk (w1.alloc (.cells #[.int .i64 0, .int .i64 0, .int .i64 0, .int .i64 0, .int .i64 0, .int .i64 wd, .bool ov, .int .i64 no, .slice av L c] 79)) w1.heap.size := ⟨_, 79, heap_alloc_new _ _, rfl⟩
  have h0 : ∀ a, av = some a → a.block ≠ 0 := fun a e => by have := (HA a e).1; omega
  refine ⟨co_at (H1.next n2) (K1.next n2) (by omega) h0, co_at (tco.next n3) (tb.next n3) (by omega) h0, fun τ no => ?_, B1.trans (n2.mono hs), by omega, hP, hs, ?_⟩
  · exact tabsY_fr (S := fun k => w.heap.size ≤ k) ⟨n2.os.trans B1.os, n2.tape.trans B1.tape, n2.output.trans B1.output, Nat.le_trans hs n2.size, fun k hk hn => (n2.block k (by omega)).trans (B1.block k hk)⟩ (by omega) (hT _) τ no
  · rintro g ⟨_, a, c', e, rfl⟩
    cases e
    exact (HA _ rfl).1
theorem two_run {p : Pg} {σ : Nat → Int} {P' : Nat} {q : Place} {W w4 : World} {v : Value} {k : Nat} (h : Two p no σ P P' q w W) (R : RunRel p no σ P q W v k w4) : TwRel p no σ P P' W.heap.size q w v k 0 w4 := by
  have hn : ¬ (P' = P ∨ p.F q P') := fun e => e.elim (fun e => h.ne e.symm) h.tw.apart
  refine ⟨h.tw.other R.co R.fr hn, R.co, R.own, R.tabs, ⟨R.fr.os.trans h.below.os, R.fr.tape.trans h.below.tape, R.fr.output.trans h.below.output, Nat.le_trans h.below.size R.fr.size, fun i hi => (R.fr.block i (Nat.lt_of_lt_of_le hi h.below.size) ?_).trans (h.below.block i hi)⟩⟩
  rintro (e | e)
  · have := h.hP; omega
  · have := h.hF i e; omega
end
theorem box_first {w1 w4 : World} {S : Nat → Prop} {o : Obj} {cs : Array Value} {t : TypeId} (f : Fr S ((w1.alloc o).alloc (.cells cs t)) w4) (hS : ¬ S (w1.heap.size + 1)) : ∀ (i : Nat) (u : Value), cs[i]? = some u → w4.cell? ⟨w1.heap.size + 1, i, none⟩ = some u := fun i u hu => by
  refine (f.cell (by simp) hS).trans ?_
  rw [World.cell?_alloc_at _ _ _ _ (by simp)]
  exact hu
theorem its_at {p : Pg} (hp : p.ok) (no : Int) {σ : Nat → Int} (h4 : 0 ≤ σ 4 ∧ σ 4 ≤ p.L) : ∀ j, 0 ≤ itS p no σ j 4 ∧ itS p no σ j 4 ≤ p.L
  | 0 => h4
  | j + 1 => (nxt_at hp no (its_at hp no h4 j)).1
section
variable {p : Pg} {no : Int} {σ : Nat → Int} {P P' bs : Nat} {q : Place} {w W wr w5 : World} {v : Value} {k j : Nat}
theorem TwRel.kept (R : TwRel p no σ P P' bs q w v k j wr) (f : Fr (fun _ => False) wr w5) : TwRel p no σ P P' bs q w v k j w5 :=
  ⟨R.co.kept (fun i hi => f.block i (hi.elim (fun e => e ▸ R.co.lt) (fun e => Pg.lt R.co.prog e)) (fun e => e)), R.me.kept (fun i hi => f.block i (hi.elim (fun e => e ▸ R.me.lt) (fun e => Pg.lt R.me.prog e)) (fun e => e)), ownsRow_fr R.own f (fun _ _ e => e), tabsY_fr f (fun e => e) R.tabs,
    ⟨f.os.trans R.below.os, f.tape.trans R.below.tape, f.output.trans R.below.output, Nat.le_trans R.below.size f.size, fun i hi => (f.block i (Nat.lt_of_lt_of_le hi R.below.size) (fun e => e)).trans (R.below.block i hi)⟩⟩
theorem two_step (h : Two p no σ P P' q w W) (R : TwRel p no σ P P' W.heap.size q w v k j wr) (co5 : CoAt p (nxt p no (itS p no σ j)) no P' q w5) (f5 : FrS (fun x => x = P' ∨ p.F q x) wr w5) : TwRel p no σ P P' W.heap.size q w v k (j + 1) w5 := by
  have hn : ¬ (P = P' ∨ p.F q P) := fun e => e.elim (fun e => h.ne e) h.me.apart
  refine ⟨co5, R.me.other co5 f5.fr hn, ownsRow_fr R.own f5.fr (fun g hg => ?_), tabsY_fr f5.fr (fun e => e.elim (fun e => h.tw.p0 e.symm) h.tw.q0) R.tabs, ⟨f5.os.trans R.below.os, f5.tape.trans R.below.tape, f5.output.trans R.below.output, Nat.le_trans R.below.size f5.size, fun i hi => (f5.block i (Nat.lt_of_lt_of_le hi R.below.size) ?_).trans (R.below.block i hi)⟩⟩
  · have h1 := (R.own.lt g hg).1
    rintro (e | e)
    · have := h.tw.lt; omega
    · have := Pg.lt h.tw.prog e; omega
  · rintro (e | e)
    · have := h.hP'; omega
    · have := h.hF i e; omega
end
/-- What stands while the last test of CoreRuns runs: both cores' cells, the next instruction's op. -/
def SR (w : World) (P Q B : Nat) (r0 r1 r2 r3 r4 r5 : Int) (b6 : Bool) (o : Int) (W : World) : Prop :=
  W.cell? ⟨P, 0, none⟩ = some (.int .i64 r0) ∧ W.cell? ⟨P, 1, none⟩ = some (.int .i64 r1) ∧ W.cell? ⟨P, 2, none⟩ = some (.int .i64 r2) ∧ W.cell? ⟨P, 3, none⟩ = some (.int .i64 r3) ∧ W.cell? ⟨P, 4, none⟩ = some (.int .i64 r4) ∧ W.cell? ⟨P, 5, none⟩ = some (.int .i64 r5) ∧ W.cell? ⟨P, 6, none⟩ = some (.bool b6) ∧ W.cell? ⟨Q, 0, none⟩ = some (.int .i64 r0) ∧ W.cell? ⟨Q, 1, none⟩ = some (.int .i64 r1) ∧ W.cell? ⟨Q, 2, none⟩ = some (.int .i64 r2) ∧ W.cell? ⟨Q, 3, none⟩ = some (.int .i64 r3) ∧ W.cell? ⟨Q, 4, none⟩ = some (.int .i64 r4) ∧ W.cell? ⟨Q, 5, none⟩ = some (.int .i64 r5) ∧ W.cell? ⟨Q, 6, none⟩ = some (.bool b6) ∧ W.cell? ⟨B, 0, none⟩ = some (.int .i64 o) ∧ Below w.heap.size w W ∧ P < W.heap.size ∧ Q < W.heap.size ∧ B < W.heap.size
theorem SR.next {w : World} {P Q B : Nat} {r0 r1 r2 r3 r4 r5 : Int} {b6 : Bool} {o : Int} {W W' : World} (h : SR w P Q B r0 r1 r2 r3 r4 r5 b6 o W) (k : Below W.heap.size W W') : SR w P Q B r0 r1 r2 r3 r4 r5 b6 o W' := by
  obtain ⟨h0, h1, h2, h3, h4, h5, h6, h7, h8, h9, h10, h11, h12, h13, h14, h15, h16, h17, h18⟩ := h
  have f : ∀ i, W'.cell? ⟨P, i, none⟩ = W.cell? ⟨P, i, none⟩ := fun i => k.cell (p := ⟨P, i, none⟩) h16
  have g : ∀ i, W'.cell? ⟨Q, i, none⟩ = W.cell? ⟨Q, i, none⟩ := fun i => k.cell (p := ⟨Q, i, none⟩) h17
  have e : ∀ i, W'.cell? ⟨B, i, none⟩ = W.cell? ⟨B, i, none⟩ := fun i => k.cell (p := ⟨B, i, none⟩) h18
  exact ⟨(f 0).trans h0, (f 1).trans h1, (f 2).trans h2, (f 3).trans h3, (f 4).trans h4, (f 5).trans h5, (f 6).trans h6, (g 0).trans h7, (g 1).trans h8, (g 2).trans h9, (g 3).trans h10, (g 4).trans h11, (g 5).trans h12, (g 6).trans h13, (e 0).trans h14, h15.trans (k.mono h15.size), Nat.lt_of_lt_of_le h16 k.size, Nat.lt_of_lt_of_le h17 k.size, Nat.lt_of_lt_of_le h18 k.size⟩
theorem SR.drew {w : World} {P Q B : Nat} {r0 r1 r2 r3 r4 r5 : Int} {b6 : Bool} {o : Int} {W : World} (h : SR w P Q B r0 r1 r2 r3 r4 r5 b6 o W) : SR w P Q B r0 r1 r2 r3 r4 r5 b6 o W.drew := by
  obtain ⟨h0, h1, h2, h3, h4, h5, h6, h7, h8, h9, h10, h11, h12, h13, h14, h15, h16, h17, h18⟩ := h
  exact ⟨h0, h1, h2, h3, h4, h5, h6, h7, h8, h9, h10, h11, h12, h13, h14, h15.drew, h16, h17, h18⟩
section
variable {w w' : World} {P Q : Nat} {r0 r1 r2 r3 r4 r5 : Int} {b6 : Bool} {no : Int} {av : Option Addr} {L c : Nat} {A B C D : Nat → Int}
theorem sr_of (h : Co w' P r0 r1 r2 r3 r4 r5 b6 no av L c A B C D) (g : Co w' Q r0 r1 r2 r3 r4 r5 b6 no av L c A B C D) (hb : Below w.heap.size w w') (xa xb xc xd : Int) : SR w P Q w'.heap.size r0 r1 r2 r3 r4 r5 b6 xa (w'.alloc (.cells #[.int .i64 xa, .int .i64 xb, .int .i64 xc, .int .i64 xd] 23)) := by
  have n := (Below.refl w'.heap.size w').alloc (Nat.le_refl _) (.cells #[.int .i64 xa, .int .i64 xb, .int .i64 xc, .int .i64 xd] 23)
  have h := h.next n
  have g := g.next n
  exact ⟨h.c0, h.c1, h.c2, h.c3, h.c4, h.c5, h.c6, g.c0, g.c1, g.c2, g.c3, g.c4, g.c5, g.c6, World.cell?_alloc_new w' _ 23 0, hb.trans (n.mono hb.size), h.hP, g.hP, by simp⟩
end
theorem insV_is (r4 : Int) (L : Nat) (A B C D : Nat → Int) : ∃ xa xb xc xd, insV r4 L A B C D = .agg #[.int .i64 xa, .int .i64 xb, .int .i64 xc, .int .i64 xd] := by
  unfold insV
  split
  · exact ⟨_, _, _, _, rfl⟩
  · exact ⟨_, _, _, _, rfl⟩
theorem last_fact {L : Nat} {A B C D : Nat → Int} (hp : Pg.ok ⟨L, A, B, C, D⟩) {σ : Nat → Int} (h4 : 0 ≤ σ 4 ∧ σ 4 ≤ L) {most : Int} {k : Nat} (hend : k = most.toNat ∨ evt ⟨L, A, B, C, D⟩ 0 (itS ⟨L, A, B, C, D⟩ 0 σ k) 7 = 0) :
    most ≤ (k : Int) ∨ ((k : Int) < most ∧ isN (itS ⟨L, A, B, C, D⟩ 0 σ k 4) L A = false) ∨ ((k : Int) < most ∧ isN (itS ⟨L, A, B, C, D⟩ 0 σ k 4) L A = true ∧ decide (A (itS ⟨L, A, B, C, D⟩ 0 σ k 4).toNat = 1 ∨ A (itS ⟨L, A, B, C, D⟩ 0 σ k 4).toNat = 2 ∨ A (itS ⟨L, A, B, C, D⟩ 0 σ k 4).toNat = 6 ∨ A (itS ⟨L, A, B, C, D⟩ 0 σ k 4).toNat = 7 ∨ A (itS ⟨L, A, B, C, D⟩ 0 σ k 4).toNat = 9 ∨ A (itS ⟨L, A, B, C, D⟩ 0 σ k 4).toNat = 10) = false) := by
  by_cases hm : most ≤ (k : Int)
  · exact .inl hm
  · have hlt : (k : Int) < most := by omega
    have ha := its_at hp 0 (σ := σ) h4 k
    have hn := (nxt_at hp 0 ha).2
    generalize itS ⟨L, A, B, C, D⟩ 0 σ k = τ at *
    cases e : isN (τ 4) L A
    · exact .inr (.inl ⟨hlt, rfl⟩)
    · refine .inr (.inr ⟨hlt, rfl, decide_eq_false ?_⟩)
      have e2 : 0 ≤ τ 4 ∧ τ 4 < L ∧ A (τ 4).toNat ≠ 11 := of_decide_eq_true e
      have hi : Pg.ins ⟨L, A, B, C, D⟩ (τ 4) 0 = A (τ 4).toNat := by
        simp only [Pg.ins]
        rw [if_pos ⟨e2.1, e2.2.1⟩]
        rfl
      rcases hn with hn | ⟨-, hn | hn⟩
      · rcases hend with hend | hend
        · omega
        · rw [hn] at hend; cases hend
      · have : (L : Int) ≤ τ 4 := hn
        omega
      · rw [hi] at hn
        omega
set_option maxHeartbeats 4000000 in
theorem runs_ok (wd most : Int) (av : Option Addr) (L c : Nat) (A B C D : Nat → Int) (hL : L ≤ maxLen) (h : ¬ 40 < L) (hm : ¬ 100 < most) (hr : 0 ≤ wd ∧ wd ≤ 3) (w : World) (T : Tab w) (hT : ∀ (p : Pg) τ no, TabsIn (stE p τ no) 9 tsY15 w) (hl : OpsIn w av L A B C D) (hq : (chkE L A B C D).2 = 0) (ha : Hid (AwOk w)) :
    Calls Tryd.prog 11 #[.slice av L c, .int .i64 wd, .int .i64 most] w fun e w' => e = .returned (.bool true) ∧ Below w.heap.size w w' := by
  have h0 : ¬ (40 : Int) < (L : Int) := by omega
  have hok := hide (pg_ok hq)
  have hN := hide (new_b (av := av) (L := L) (c := c) (A := A) (B := B) (C := C) (D := D) 0 wd ⟨by omega, by omega, hr.1, hr.2⟩ hL w T hl hq)
  have HT := hide hT
  have w0 : 0 < w.heap.size := T.1
  have le : L ≤ 32 := hok.out.le
  clear hq hl T hT
  go_enter Tryd.func11, Tryd.ntmps11
  go_wp2_with fail
  refine hN.out.mono ?_
  rintro e w1 ⟨P, av', c', rfl, hco, hP, hav, hb1, hblk⟩
  generalize hov : (!isN 0 L A) = ov at hco
  have H1 := hide hco
  have K1 := hide hblk
  have B1 := hide hb1
  have HA := hide hav
  clear hco hblk hb1 hav hN
  go_wp2_with fail
  refine (twin_b _ H1.out).mono ?_
  rintro e w2 ⟨rfl, rfl⟩
  have N1 := (Below.refl w1.heap.size w1).alloc (Nat.le_refl _) (.cells #[.int .i64 0, .int .i64 0, .int .i64 0, .int .i64 0, .int .i64 0, .int .i64 wd, .bool ov, .int .i64 0, .slice av' L c'] 79)
  have c0 := (H1.out.next N1).c0
  have c1 := (H1.out.next N1).c1
  have c2 := (H1.out.next N1).c2
  have c3 := (H1.out.next N1).c3
  have c4 := (H1.out.next N1).c4
  have c5 := (H1.out.next N1).c5
  have c6 := (H1.out.next N1).c6
  clear N1
  have TWO := hide (fun x => two_start H1.out K1.out B1.out HA.out HT.out w0 hP x)
  go_wp2_with fail
  refine (run_any hok.out 0 ⟨Int.le_refl _, Int.natCast_nonneg _⟩ most hm _ (TWO.out _).me (TWO.out _).tabs).mono ?_
  rintro e w4 ⟨k, v, rfl, hk, hend, R⟩
  have TW := hide (TWO.out (.cells #[.int .i64 0, .int .i64 0, .int .i64 0, .int .i64 0, .int .i64 0, .int .i64 wd, .bool ov] 64))
  have TWR := hide (two_run (TWO.out _) R)
  have DID := hide R.did
  have ATS := hide (its_at hok.out 0 (σ := stC 0 0 0 0 0 wd ov) ⟨Int.le_refl _, Int.natCast_nonneg _⟩)
  have F4 := hide R.fr
  obtain ⟨va, vc, rfl, hvg⟩ := owns_slice R.own
  have hsep : ∀ a, av' = some a → a.block ≠ w1.heap.size := fun a e => by have := (HA.out a e).2; omega
  have hsP : ∀ a, av' = some a → a.block ≠ P := H1.out.sep
  have CT := hide (at_co TWR.out.co hsep le)
  have t0 : w4.cell? ⟨w1.heap.size, 0, none⟩ = some (.int .i64 0) := CT.out.c0
  have t1 : w4.cell? ⟨w1.heap.size, 1, none⟩ = some (.int .i64 0) := CT.out.c1
  have t2 : w4.cell? ⟨w1.heap.size, 2, none⟩ = some (.int .i64 0) := CT.out.c2
  have t3 : w4.cell? ⟨w1.heap.size, 3, none⟩ = some (.int .i64 0) := CT.out.c3
  have t4 : w4.cell? ⟨w1.heap.size, 4, none⟩ = some (.int .i64 0) := CT.out.c4
  have t5 : w4.cell? ⟨w1.heap.size, 5, none⟩ = some (.int .i64 wd) := CT.out.c5
  have t6 := CT.out.c6
  have e6 : (itS ⟨L, A, B, C, D⟩ 0 (stC 0 0 0 0 0 wd ov) 0 6 == 1) = ov := by cases ov <;> rfl
  rw [e6] at t6
  have bx := hide (box_first F4.out (fun e => by
    have hPl := H1.out.hP
    rcases e with e | ⟨_, a, c'', e, hb⟩
    · omega
    · cases e
      have := (HA.out _ rfl).2
      omega))
  have x0 := bx.out 0 _ rfl
  have x1 := bx.out 1 _ rfl
  have x2 := bx.out 2 _ rfl
  have x3 := bx.out 3 _ rfl
  have x4 := bx.out 4 _ rfl
  have x5 := bx.out 5 _ rfl
  have x6 := bx.out 6 _ rfl
  have ne := co_neq 0 0 0 0 0 wd ov
  clear e6 R c0 c1 c2 c3 c4 c5 c6
  clear CT
  obtain ⟨M, hM, hkm⟩ : ∃ M : Int, (if 0 < most then most else 0) = M ∧ (k : Int) ≤ M := ⟨_, rfl, by split <;> omega⟩
  go_wp2_with (go_quiet (fail))
  clear t0 t1 t2 t3 t4 t5 t6 x0 x1 x2 x3 x4 x5 x6 ne bx hM hkm
  have TWN := hide (TWR.out.kept ((Fr.refl _ w4).drewN nq))
  go_loopw [12] (fun v12 wr => ∃ j : Nat, j ≤ k ∧ v12 = .int .i64 j ∧ TwRel ⟨L, A, B, C, D⟩ 0 (stC 0 0 0 0 0 wd ov) P w1.heap.size ((w1.alloc (.cells #[.int .i64 0, .int .i64 0, .int .i64 0, .int .i64 0, .int .i64 0, .int .i64 wd, .bool ov, .int .i64 0, .slice av' L c'] 79)).alloc (.cells #[.int .i64 0, .int .i64 0, .int .i64 0, .int .i64 0, .int .i64 0, .int .i64 wd, .bool ov] 64)).heap.size ⟨0, 0, 0, .slice av' L c'⟩ w (.slice va k vc) k j wr) (fun v12 _ => k - (intOf v12).toNat)
  case atStart => exact ⟨0, Nat.zero_le _, rfl, TWN.out⟩
  case round =>
    obtain ⟨j, hj, rfl, R⟩ := hrel
    have TR := hide R
    clear R
    by_cases hlt : j < k
    · have hlt' : (j : Int) < (k : Int) := by omega
      obtain ⟨g, rfl⟩ := hvg (by omega)
      go_wp2_with fail
      refine (local_call hok.out 0 (ATS.out j) _ TR.out.co (TR.out.tabs _ _)).mono ?_
      rintro r w5 ⟨rfl, co5, f5⟩
      have NX := hide (two_step TW.out TR.out co5 f5)
      clear co5 f5
      rw [DID.out j hlt]
      have hgl : g < w5.heap.size := (NX.out.own.lt g rfl).2
      have YS : ∀ (i : Nat), i < 7 → (w5.alloc (.cells #[.int .i64 (evt ⟨L, A, B, C, D⟩ 0 (itS ⟨L, A, B, C, D⟩ 0 (stC 0 0 0 0 0 wd ov) j) 0), .int .i64 (evt ⟨L, A, B, C, D⟩ 0 (itS ⟨L, A, B, C, D⟩ 0 (stC 0 0 0 0 0 wd ov) j) 1), .int .i64 (evt ⟨L, A, B, C, D⟩ 0 (itS ⟨L, A, B, C, D⟩ 0 (stC 0 0 0 0 0 wd ov) j) 2), .int .i64 (evt ⟨L, A, B, C, D⟩ 0 (itS ⟨L, A, B, C, D⟩ 0 (stC 0 0 0 0 0 wd ov) j) 3), .int .i64 (evt ⟨L, A, B, C, D⟩ 0 (itS ⟨L, A, B, C, D⟩ 0 (stC 0 0 0 0 0 wd ov) j) 4), .int .i64 (evt ⟨L, A, B, C, D⟩ 0 (itS ⟨L, A, B, C, D⟩ 0 (stC 0 0 0 0 0 wd ov) j) 5), .int .i64 (evt ⟨L, A, B, C, D⟩ 0 (itS ⟨L, A, B, C, D⟩ 0 (stC 0 0 0 0 0 wd ov) j) 6)] 54)).cell? ⟨g, j * 7 + i, none⟩ = some (.int .i64 (evt ⟨L, A, B, C, D⟩ 0 (itS ⟨L, A, B, C, D⟩ 0 (stC 0 0 0 0 0 wd ov) j) i)) := fun i hi =>
        (World.cell?_alloc_lt w5 _ ⟨g, j * 7 + i, none⟩ hgl).trans ((NX.out.own.cellAt (j * 7 + i) (by omega)).trans (evCs_at _ _ _ k j i hlt hi))
      have y0 := YS 0 (by omega)
      have y1 := YS 1 (by omega)
      have y2 := YS 2 (by omega)
      have y3 := YS 3 (by omega)
      have y4 := YS 4 (by omega)
      have y5 := YS 5 (by omega)
      have y6 := YS 6 (by omega)
      rw [Nat.add_zero] at y0
      clear YS
      generalize evt ⟨L, A, B, C, D⟩ 0 (itS ⟨L, A, B, C, D⟩ 0 (stC 0 0 0 0 0 wd ov) j) 0 = e0 at *
      generalize evt ⟨L, A, B, C, D⟩ 0 (itS ⟨L, A, B, C, D⟩ 0 (stC 0 0 0 0 0 wd ov) j) 1 = e1 at *
      generalize evt ⟨L, A, B, C, D⟩ 0 (itS ⟨L, A, B, C, D⟩ 0 (stC 0 0 0 0 0 wd ov) j) 2 = e2 at *
      generalize evt ⟨L, A, B, C, D⟩ 0 (itS ⟨L, A, B, C, D⟩ 0 (stC 0 0 0 0 0 wd ov) j) 3 = e3 at *
      generalize evt ⟨L, A, B, C, D⟩ 0 (itS ⟨L, A, B, C, D⟩ 0 (stC 0 0 0 0 0 wd ov) j) 4 = e4 at *
      generalize evt ⟨L, A, B, C, D⟩ 0 (itS ⟨L, A, B, C, D⟩ 0 (stC 0 0 0 0 0 wd ov) j) 5 = e5 at *
      generalize evt ⟨L, A, B, C, D⟩ 0 (itS ⟨L, A, B, C, D⟩ 0 (stC 0 0 0 0 0 wd ov) j) 6 = e6 at *
      have ne := ev_neq e0 e1 e2 e3 e4 e5 e6
      go_wp2_with (go_quiet (fail))
      go_roundw
      case rel => exact ⟨j + 1, by omega, int_eq (by omega), NX.out.kept (((Fr.refl _ w5).alloc _).drewN _)⟩
      case measure => simp [intOf]; omega
    · obtain rfl : j = k := by omega
      have FACT := last_fact (most := most) hok.out (σ := stC 0 0 0 0 0 wd ov) ⟨Int.le_refl _, Int.natCast_nonneg _⟩ hend
      clear hend hk
      go_wp2_with fail
      refine (next_f _ (at_co TR.out.me hsP le)).mono ?_
      rintro r w5 ⟨rfl, hb5⟩
      have hs0 : ∀ xa xb xc xd, SR w P w1.heap.size w5.heap.size (itS ⟨L, A, B, C, D⟩ 0 (stC 0 0 0 0 0 wd ov) j 0) (itS ⟨L, A, B, C, D⟩ 0 (stC 0 0 0 0 0 wd ov) j 1) (itS ⟨L, A, B, C, D⟩ 0 (stC 0 0 0 0 0 wd ov) j 2) (itS ⟨L, A, B, C, D⟩ 0 (stC 0 0 0 0 0 wd ov) j 3) (itS ⟨L, A, B, C, D⟩ 0 (stC 0 0 0 0 0 wd ov) j 4) (itS ⟨L, A, B, C, D⟩ 0 (stC 0 0 0 0 0 wd ov) j 5) ((itS ⟨L, A, B, C, D⟩ 0 (stC 0 0 0 0 0 wd ov) j 6) == 1) xa (w5.alloc (.cells #[.int .i64 xa, .int .i64 xb, .int .i64 xc, .int .i64 xd] 23)) :=
        sr_of ((at_co TR.out.me hsP le).next hb5) ((at_co TR.out.co hsep le).next hb5) (TR.out.below.trans (hb5.mono TR.out.below.size))
      clear hb5 TR TWN TWR DID ATS TW TWO F4 HT H1 K1 B1 HA hsep hsP hvg
      have qe := co_eql (itS ⟨L, A, B, C, D⟩ 0 (stC 0 0 0 0 0 wd ov) j 0) (itS ⟨L, A, B, C, D⟩ 0 (stC 0 0 0 0 0 wd ov) j 1) (itS ⟨L, A, B, C, D⟩ 0 (stC 0 0 0 0 0 wd ov) j 2) (itS ⟨L, A, B, C, D⟩ 0 (stC 0 0 0 0 0 wd ov) j 3) (itS ⟨L, A, B, C, D⟩ 0 (stC 0 0 0 0 0 wd ov) j 4) (itS ⟨L, A, B, C, D⟩ 0 (stC 0 0 0 0 0 wd ov) j 5) ((itS ⟨L, A, B, C, D⟩ 0 (stC 0 0 0 0 0 wd ov) j 6) == 1)
      generalize ((itS ⟨L, A, B, C, D⟩ 0 (stC 0 0 0 0 0 wd ov) j 6) == 1) = b6 at *
      generalize (itS ⟨L, A, B, C, D⟩ 0 (stC 0 0 0 0 0 wd ov) j 0) = r0 at *
      generalize (itS ⟨L, A, B, C, D⟩ 0 (stC 0 0 0 0 0 wd ov) j 1) = r1 at *
      generalize (itS ⟨L, A, B, C, D⟩ 0 (stC 0 0 0 0 0 wd ov) j 2) = r2 at *
      generalize (itS ⟨L, A, B, C, D⟩ 0 (stC 0 0 0 0 0 wd ov) j 3) = r3 at *
      generalize (itS ⟨L, A, B, C, D⟩ 0 (stC 0 0 0 0 0 wd ov) j 5) = r5 at *
      generalize (itS ⟨L, A, B, C, D⟩ 0 (stC 0 0 0 0 0 wd ov) j 4) = r4 at *
      rcases FACT with hm1 | ⟨hm1, hn⟩ | ⟨hm1, hn, hloc⟩
      · obtain ⟨xa, xb, xc, xd, hiv⟩ := insV_is r4 L A B C D
        rw [hiv]
        clear hiv
        generalize isN r4 L A = bn at *
        have hs1 := hs0 xa xb xc xd
        clear hs0
        go_wp2_with fail
        refine wp_region_held_drew (S := (fun W => W.cell? ⟨P, 0, none⟩ = some (.int .i64 r0) ∧ W.cell? ⟨P, 1, none⟩ = some (.int .i64 r1) ∧ W.cell? ⟨P, 2, none⟩ = some (.int .i64 r2) ∧ W.cell? ⟨P, 3, none⟩ = some (.int .i64 r3) ∧ W.cell? ⟨P, 4, none⟩ = some (.int .i64 r4) ∧ W.cell? ⟨P, 5, none⟩ = some (.int .i64 r5) ∧ W.cell? ⟨P, 6, none⟩ = some (.bool b6) ∧ W.cell? ⟨w1.heap.size, 0, none⟩ = some (.int .i64 r0) ∧ W.cell? ⟨w1.heap.size, 1, none⟩ = some (.int .i64 r1) ∧ W.cell? ⟨w1.heap.size, 2, none⟩ = some (.int .i64 r2) ∧ W.cell? ⟨w1.heap.size, 3, none⟩ = some (.int .i64 r3) ∧ W.cell? ⟨w1.heap.size, 4, none⟩ = some (.int .i64 r4) ∧ W.cell? ⟨w1.heap.size, 5, none⟩ = some (.int .i64 r5) ∧ W.cell? ⟨w1.heap.size, 6, none⟩ = some (.bool b6) ∧ W.cell? ⟨w5.heap.size, 0, none⟩ = some (.int .i64 xa) ∧ Below w.heap.size w W ∧ P < W.heap.size ∧ w1.heap.size < W.heap.size ∧ w5.heap.size < W.heap.size)) (by kernel_rfl) ?_ (fun hHeld => ?_)
        · exact SR.drew hs1
        refine wpAnyH_take (i := 0) (v := ?_) rfl (by kernel_rfl) (by kernel_rfl) (by kernel_rfl) (fun _ _ _ h => h) (Or.inl ⟨by rfl, ?_⟩) hHeld ?_
        rotate_left
        · intro w' hSw
          try dsimp only at hSw
          go_simp
          all_goals with_reducible rfl
        try simp only [List.getElem_toArray, List.getElem_cons_zero, Act.put, List.setIfInBounds_toArray, List.set_cons_zero, List.set_cons_succ]
        refine wpAnyH_take (i := 1) (v := ?_) rfl (by kernel_rfl) (by kernel_rfl) (by kernel_rfl) (fun _ _ _ h => h) (Or.inl ⟨by rfl, ?_⟩) hHeld ?_
        rotate_left
        · intro w' hSw
          try dsimp only at hSw
          go_simp
          all_goals with_reducible rfl
        try simp only [List.getElem_toArray, List.getElem_cons_succ, List.getElem_cons_zero, Act.put, List.setIfInBounds_toArray, List.set_cons_zero, List.set_cons_succ]
        refine wpAnyH_take (i := 2) (v := ?_) rfl (by kernel_rfl) (by kernel_rfl) (by kernel_rfl) (fun _ _ _ h => h) (Or.inl ⟨by rfl, ?_⟩) hHeld ?_
        rotate_left
        · intro w' hSw
          try dsimp only at hSw
          go_simp
          all_goals with_reducible rfl
        try simp only [List.getElem_toArray, List.getElem_cons_succ, List.getElem_cons_zero, Act.put, List.setIfInBounds_toArray, List.set_cons_zero, List.set_cons_succ]
        refine wpAnyH_take (i := 3) (v := ?_) rfl (by kernel_rfl) (by kernel_rfl) (by kernel_rfl) (fun _ _ _ h => h) (Or.inl ⟨by rfl, ?_⟩) hHeld ?_
        rotate_left
        · intro w' hSw
          try dsimp only at hSw
          go_simp
          all_goals with_reducible rfl
        try simp only [List.getElem_toArray, List.getElem_cons_succ, List.getElem_cons_zero, Act.put, List.setIfInBounds_toArray, List.set_cons_zero, List.set_cons_succ]
        refine wpAnyH_take (i := 4) (v := ?_) rfl (by kernel_rfl) (by kernel_rfl) (by kernel_rfl) (fun _ _ _ h => h) (Or.inl ⟨by rfl, ?_⟩) hHeld ?_
        rotate_left
        · intro w' hSw
          try dsimp only at hSw
          go_simp
          all_goals with_reducible rfl
        try simp only [List.getElem_toArray, List.getElem_cons_succ, List.getElem_cons_zero, Act.put, List.setIfInBounds_toArray, List.set_cons_zero, List.set_cons_succ]
        refine wpAnyH_take (i := 5) (v := undef) rfl (by kernel_rfl) (by kernel_rfl) (by kernel_rfl) (fun _ _ _ h => h) (Or.inr ⟨by rfl, rfl⟩) hHeld ?_
        try simp only [List.getElem_toArray, List.getElem_cons_succ, List.getElem_cons_zero, Act.put, List.setIfInBounds_toArray, List.set_cons_zero, List.set_cons_succ]
        refine wpAnyH_take (i := 6) (v := undef) rfl (by kernel_rfl) (by kernel_rfl) (by kernel_rfl) (fun _ _ _ h => h) (Or.inr ⟨by rfl, rfl⟩) hHeld ?_
        try simp only [List.getElem_toArray, List.getElem_cons_succ, List.getElem_cons_zero, Act.put, List.setIfInBounds_toArray, List.set_cons_zero, List.set_cons_succ]
        refine wpAnyH_take (i := 7) (v := ?_) rfl (by kernel_rfl) (by kernel_rfl) (by kernel_rfl) (fun _ _ _ h => h) (Or.inl ⟨by rfl, ?_⟩) hHeld ?_
        rotate_left
        · intro w' hSw
          try dsimp only at hSw
          go_simp
          all_goals with_reducible rfl
        try simp only [List.getElem_toArray, List.getElem_cons_succ, List.getElem_cons_zero, Act.put, List.setIfInBounds_toArray, List.set_cons_zero, List.set_cons_succ]
        refine wpAnyH_take (i := 8) (v := ?_) rfl (by kernel_rfl) (by kernel_rfl) (by kernel_rfl) (fun _ _ _ h => h) (Or.inl ⟨by rfl, ?_⟩) hHeld ?_
        rotate_left
        · intro w' hSw
          try dsimp only at hSw
          go_simp
          all_goals with_reducible rfl
        try simp only [List.getElem_toArray, List.getElem_cons_succ, List.getElem_cons_zero, Act.put, List.setIfInBounds_toArray, List.set_cons_zero, List.set_cons_succ]
        refine wpAnyH_take (i := 9) (v := undef) rfl (by kernel_rfl) (by kernel_rfl) (by kernel_rfl) (fun _ _ _ h => h) (Or.inr ⟨by rfl, rfl⟩) hHeld ?_
        try simp only [List.getElem_toArray, List.getElem_cons_succ, List.getElem_cons_zero, Act.put, List.setIfInBounds_toArray, List.set_cons_zero, List.set_cons_succ]
        refine wpAnyH_take (i := 10) (v := undef) rfl (by kernel_rfl) (by kernel_rfl) (by kernel_rfl) (fun _ _ _ h => h) (Or.inr ⟨by rfl, rfl⟩) hHeld ?_
        try simp only [List.getElem_toArray, List.getElem_cons_succ, List.getElem_cons_zero, Act.put, List.setIfInBounds_toArray, List.set_cons_zero, List.set_cons_succ]
        refine wpAnyH_take (i := 11) (v := undef) rfl (by kernel_rfl) (by kernel_rfl) (by kernel_rfl) (fun _ _ _ h => h) (Or.inr ⟨by rfl, rfl⟩) hHeld ?_
        try simp only [List.getElem_toArray, List.getElem_cons_succ, List.getElem_cons_zero, Act.put, List.setIfInBounds_toArray, List.set_cons_zero, List.set_cons_succ]
        refine wpAnyH_take (i := 12) (v := undef) rfl (by kernel_rfl) (by kernel_rfl) (by kernel_rfl) (fun _ _ _ h => h) (Or.inr ⟨by rfl, rfl⟩) hHeld ?_
        try simp only [List.getElem_toArray, List.getElem_cons_succ, List.getElem_cons_zero, Act.put, List.setIfInBounds_toArray, List.set_cons_zero, List.set_cons_succ]
        refine wpAnyH_take (i := 13) (v := ?_) rfl (by kernel_rfl) (by kernel_rfl) (by kernel_rfl) (fun _ _ _ h => h) (Or.inl ⟨by rfl, ?_⟩) hHeld ?_
        rotate_left
        · intro w' hSw
          try dsimp only at hSw
          go_simp
          all_goals with_reducible rfl
        try simp only [List.getElem_toArray, List.getElem_cons_succ, List.getElem_cons_zero, Act.put, List.setIfInBounds_toArray, List.set_cons_zero, List.set_cons_succ]
        refine wpAnyH_take (i := 14) (v := ?_) rfl (by kernel_rfl) (by kernel_rfl) (by kernel_rfl) (fun _ _ _ h => h) (Or.inl ⟨by rfl, ?_⟩) hHeld ?_
        rotate_left
        · intro w' hSw
          try dsimp only at hSw
          go_simp
          all_goals with_reducible rfl
        try simp only [List.getElem_toArray, List.getElem_cons_succ, List.getElem_cons_zero, Act.put, List.setIfInBounds_toArray, List.set_cons_zero, List.set_cons_succ]
        refine wpAnyH_take (i := 15) (v := ?_) rfl (by kernel_rfl) (by kernel_rfl) (by kernel_rfl) (fun _ _ _ h => h) (Or.inl ⟨by rfl, ?_⟩) hHeld ?_
        rotate_left
        · intro w' hSw
          try dsimp only at hSw
          go_simp
          all_goals with_reducible rfl
        try simp only [List.getElem_toArray, List.getElem_cons_succ, List.getElem_cons_zero, Act.put, List.setIfInBounds_toArray, List.set_cons_zero, List.set_cons_succ]
        refine wpAnyH_take (i := 16) (v := ?_) rfl (by kernel_rfl) (by kernel_rfl) (by kernel_rfl) (fun _ _ _ h => h) (Or.inl ⟨by rfl, ?_⟩) hHeld ?_
        rotate_left
        · intro w' hSw
          try dsimp only at hSw
          go_simp
          all_goals with_reducible rfl
        try simp only [List.getElem_toArray, List.getElem_cons_succ, List.getElem_cons_zero, Act.put, List.setIfInBounds_toArray, List.set_cons_zero, List.set_cons_succ]
        refine wpAnyH_take (i := 17) (v := ?_) rfl (by kernel_rfl) (by kernel_rfl) (by kernel_rfl) (fun _ _ _ h => h) (Or.inl ⟨by rfl, ?_⟩) hHeld ?_
        rotate_left
        · intro w' hSw
          try dsimp only at hSw
          go_simp
          all_goals with_reducible rfl
        try simp only [List.getElem_toArray, List.getElem_cons_succ, List.getElem_cons_zero, Act.put, List.setIfInBounds_toArray, List.set_cons_zero, List.set_cons_succ]
        refine wpAnyH_take (i := 18) (v := ?_) rfl (by kernel_rfl) (by kernel_rfl) (by kernel_rfl) (fun _ _ _ h => h) (Or.inl ⟨by rfl, ?_⟩) hHeld ?_
        rotate_left
        · intro w' hSw
          try dsimp only at hSw
          go_simp
          all_goals with_reducible rfl
        try simp only [List.getElem_toArray, List.getElem_cons_succ, List.getElem_cons_zero, Act.put, List.setIfInBounds_toArray, List.set_cons_zero, List.set_cons_succ]
        refine wpAnyH_take (i := 19) (v := ?_) rfl (by kernel_rfl) (by kernel_rfl) (by kernel_rfl) (fun _ _ _ h => h) (Or.inl ⟨by rfl, ?_⟩) hHeld ?_
        rotate_left
        · intro w' hSw
          try dsimp only at hSw
          go_simp
          all_goals with_reducible rfl
        try simp only [List.getElem_toArray, List.getElem_cons_succ, List.getElem_cons_zero, Act.put, List.setIfInBounds_toArray, List.set_cons_zero, List.set_cons_succ]
        refine wpAnyH_take (i := 20) (v := ?_) rfl (by kernel_rfl) (by kernel_rfl) (by kernel_rfl) (fun _ _ _ h => h) (Or.inl ⟨by rfl, ?_⟩) hHeld ?_
        rotate_left
        · intro w' hSw
          try dsimp only at hSw
          go_simp
          all_goals with_reducible rfl
        try simp only [List.getElem_toArray, List.getElem_cons_succ, List.getElem_cons_zero, Act.put, List.setIfInBounds_toArray, List.set_cons_zero, List.set_cons_succ]
        refine wpAnyH_take (i := 21) (v := ?_) rfl (by kernel_rfl) (by kernel_rfl) (by kernel_rfl) (fun _ _ _ h => h) (Or.inl ⟨by rfl, ?_⟩) hHeld ?_
        rotate_left
        · intro w' hSw
          try dsimp only at hSw
          go_simp
          all_goals with_reducible rfl
        try simp only [List.getElem_toArray, List.getElem_cons_succ, List.getElem_cons_zero, Act.put, List.setIfInBounds_toArray, List.set_cons_zero, List.set_cons_succ]
        refine wpAnyH_take (i := 22) (v := ?_) rfl (by kernel_rfl) (by kernel_rfl) (by kernel_rfl) (fun _ _ _ h => h) (Or.inl ⟨by rfl, ?_⟩) hHeld ?_
        rotate_left
        · intro w' hSw
          try dsimp only at hSw
          go_simp
          all_goals with_reducible rfl
        try simp only [List.getElem_toArray, List.getElem_cons_succ, List.getElem_cons_zero, Act.put, List.setIfInBounds_toArray, List.set_cons_zero, List.set_cons_succ]
        refine wpAnyH_take (i := 23) (v := ?_) rfl (by kernel_rfl) (by kernel_rfl) (by kernel_rfl) (fun _ _ _ h => h) (Or.inl ⟨by rfl, ?_⟩) hHeld ?_
        rotate_left
        · intro w' hSw
          try dsimp only at hSw
          go_simp
          all_goals with_reducible rfl
        try simp only [List.getElem_toArray, List.getElem_cons_succ, List.getElem_cons_zero, Act.put, List.setIfInBounds_toArray, List.set_cons_zero, List.set_cons_succ]
        refine wpAnyH_take (i := 24) (v := ?_) rfl (by kernel_rfl) (by kernel_rfl) (by kernel_rfl) (fun _ _ _ h => h) (Or.inl ⟨by rfl, ?_⟩) hHeld ?_
        rotate_left
        · intro w' hSw
          try dsimp only at hSw
          go_simp
          all_goals with_reducible rfl
        try simp only [List.getElem_toArray, List.getElem_cons_succ, List.getElem_cons_zero, Act.put, List.setIfInBounds_toArray, List.set_cons_zero, List.set_cons_succ]
        refine wpAnyH_take (i := 25) (v := ?_) rfl (by kernel_rfl) (by kernel_rfl) (by kernel_rfl) (fun _ _ _ h => h) (Or.inl ⟨by rfl, ?_⟩) hHeld ?_
        rotate_left
        · intro w' hSw
          try dsimp only at hSw
          go_simp
          all_goals with_reducible rfl
        try simp only [List.getElem_toArray, List.getElem_cons_succ, List.getElem_cons_zero, Act.put, List.setIfInBounds_toArray, List.set_cons_zero, List.set_cons_succ]
        refine wpAnyH_ready (rs := [26]) (by kernel_rfl) (by simp) ?_
        refine AllReadyH.cons rfl (fun K hK => ?_) AllReadyH.nil
        go_simp
        refine (ha.out _ hHeld.2.2.2.2.2.2.2.2.2.2.2.2.2.2.2.1).mono ?_
        first | rintro e w9 rfl hb | rintro e w9 ⟨rfl, hb⟩
        refine hK.out _ _ ?_ (fun hHeld => ?_)
        · (try dsimp only)
          exact SR.next hHeld hb
        clear hK K
        refine wpAnyH_take (i := 27) (v := ?_) rfl (by kernel_rfl) (by kernel_rfl) (by kernel_rfl) (fun _ _ _ h => h) (Or.inl ⟨by rfl, ?_⟩) hHeld ?_
        rotate_left
        · intro w' hSw
          try dsimp only at hSw
          go_simp
          all_goals with_reducible rfl
        try simp only [List.getElem_toArray, List.getElem_cons_succ, List.getElem_cons_zero, Act.put, List.setIfInBounds_toArray, List.set_cons_zero, List.set_cons_succ]
        refine wpAnyH_take (i := 28) (v := ?_) rfl (by kernel_rfl) (by kernel_rfl) (by kernel_rfl) (fun _ _ _ h => h) (Or.inl ⟨by rfl, ?_⟩) hHeld ?_
        rotate_left
        · intro w' hSw
          try dsimp only at hSw
          go_simp
          all_goals with_reducible rfl
        try simp only [List.getElem_toArray, List.getElem_cons_succ, List.getElem_cons_zero, Act.put, List.setIfInBounds_toArray, List.set_cons_zero, List.set_cons_succ]
        refine wpAnyH_done (by kernel_rfl) ?_ _
        go_wp2_with fail
        go_ret
        exact ⟨rfl, hHeld.2.2.2.2.2.2.2.2.2.2.2.2.2.2.2.1⟩
      · obtain ⟨xa, xb, xc, xd, hiv⟩ := insV_is r4 L A B C D
        rw [hiv, hn]
        clear hiv
        have hs1 := hs0 xa xb xc xd
        clear hs0
        go_wp2_with fail
        have hm2 : ¬ most ≤ (j : Int) := by omega
        have hm3 : decide (most ≤ (j : Int)) = false := decide_eq_false hm2
        refine wp_region_held_drew (S := (fun W => W.cell? ⟨P, 0, none⟩ = some (.int .i64 r0) ∧ W.cell? ⟨P, 1, none⟩ = some (.int .i64 r1) ∧ W.cell? ⟨P, 2, none⟩ = some (.int .i64 r2) ∧ W.cell? ⟨P, 3, none⟩ = some (.int .i64 r3) ∧ W.cell? ⟨P, 4, none⟩ = some (.int .i64 r4) ∧ W.cell? ⟨P, 5, none⟩ = some (.int .i64 r5) ∧ W.cell? ⟨P, 6, none⟩ = some (.bool b6) ∧ W.cell? ⟨w1.heap.size, 0, none⟩ = some (.int .i64 r0) ∧ W.cell? ⟨w1.heap.size, 1, none⟩ = some (.int .i64 r1) ∧ W.cell? ⟨w1.heap.size, 2, none⟩ = some (.int .i64 r2) ∧ W.cell? ⟨w1.heap.size, 3, none⟩ = some (.int .i64 r3) ∧ W.cell? ⟨w1.heap.size, 4, none⟩ = some (.int .i64 r4) ∧ W.cell? ⟨w1.heap.size, 5, none⟩ = some (.int .i64 r5) ∧ W.cell? ⟨w1.heap.size, 6, none⟩ = some (.bool b6) ∧ W.cell? ⟨w5.heap.size, 0, none⟩ = some (.int .i64 xa) ∧ Below w.heap.size w W ∧ P < W.heap.size ∧ w1.heap.size < W.heap.size ∧ w5.heap.size < W.heap.size)) (by kernel_rfl) ?_ (fun hHeld => ?_)
        · exact SR.drew hs1
        refine wpAnyH_take (i := 0) (v := ?_) rfl (by kernel_rfl) (by kernel_rfl) (by kernel_rfl) (fun _ _ _ h => h) (Or.inl ⟨by rfl, ?_⟩) hHeld ?_
        rotate_left
        · intro w' hSw
          try dsimp only at hSw
          go_simp
          all_goals with_reducible rfl
        try simp only [List.getElem_toArray, List.getElem_cons_zero, Act.put, List.setIfInBounds_toArray, List.set_cons_zero, List.set_cons_succ]
        refine wpAnyH_take (i := 1) (v := ?_) rfl (by kernel_rfl) (by kernel_rfl) (by kernel_rfl) (fun _ _ _ h => h) (Or.inl ⟨by rfl, ?_⟩) hHeld ?_
        rotate_left
        · intro w' hSw
          try dsimp only at hSw
          go_simp
          all_goals with_reducible rfl
        try simp only [List.getElem_toArray, List.getElem_cons_succ, List.getElem_cons_zero, Act.put, List.setIfInBounds_toArray, List.set_cons_zero, List.set_cons_succ]
        refine wpAnyH_take (i := 2) (v := ?_) rfl (by kernel_rfl) (by kernel_rfl) (by kernel_rfl) (fun _ _ _ h => h) (Or.inl ⟨by rfl, ?_⟩) hHeld ?_
        rotate_left
        · intro w' hSw
          try dsimp only at hSw
          go_simp
          all_goals with_reducible rfl
        try simp only [List.getElem_toArray, List.getElem_cons_succ, List.getElem_cons_zero, Act.put, List.setIfInBounds_toArray, List.set_cons_zero, List.set_cons_succ]
        refine wpAnyH_take (i := 3) (v := ?_) rfl (by kernel_rfl) (by kernel_rfl) (by kernel_rfl) (fun _ _ _ h => h) (Or.inl ⟨by rfl, ?_⟩) hHeld ?_
        rotate_left
        · intro w' hSw
          try dsimp only at hSw
          go_simp
          all_goals with_reducible rfl
        try simp only [List.getElem_toArray, List.getElem_cons_succ, List.getElem_cons_zero, Act.put, List.setIfInBounds_toArray, List.set_cons_zero, List.set_cons_succ]
        refine wpAnyH_take (i := 4) (v := ?_) rfl (by kernel_rfl) (by kernel_rfl) (by kernel_rfl) (fun _ _ _ h => h) (Or.inl ⟨by rfl, ?_⟩) hHeld ?_
        rotate_left
        · intro w' hSw
          try dsimp only at hSw
          go_simp
          all_goals with_reducible rfl
        try simp only [List.getElem_toArray, List.getElem_cons_succ, List.getElem_cons_zero, Act.put, List.setIfInBounds_toArray, List.set_cons_zero, List.set_cons_succ]
        refine wpAnyH_take (i := 5) (v := ?_) rfl (by kernel_rfl) (by kernel_rfl) (by kernel_rfl) (fun _ _ _ h => h) (Or.inl ⟨by rfl, ?_⟩) hHeld ?_
        rotate_left
        · intro w' hSw
          try dsimp only at hSw
          go_simp
          all_goals with_reducible rfl
        try simp only [List.getElem_toArray, List.getElem_cons_succ, List.getElem_cons_zero, Act.put, List.setIfInBounds_toArray, List.set_cons_zero, List.set_cons_succ]
        refine wpAnyH_take (i := 6) (v := ?_) rfl (by kernel_rfl) (by kernel_rfl) (by kernel_rfl) (fun _ _ _ h => h) (Or.inl ⟨by rfl, ?_⟩) hHeld ?_
        rotate_left
        · intro w' hSw
          try dsimp only at hSw
          go_simp
          all_goals with_reducible rfl
        try simp only [List.getElem_toArray, List.getElem_cons_succ, List.getElem_cons_zero, Act.put, List.setIfInBounds_toArray, List.set_cons_zero, List.set_cons_succ]
        refine wpAnyH_take (i := 7) (v := ?_) rfl (by kernel_rfl) (by kernel_rfl) (by kernel_rfl) (fun _ _ _ h => h) (Or.inl ⟨by rfl, ?_⟩) hHeld ?_
        rotate_left
        · intro w' hSw
          try dsimp only at hSw
          go_simp
          all_goals with_reducible rfl
        try simp only [List.getElem_toArray, List.getElem_cons_succ, List.getElem_cons_zero, Act.put, List.setIfInBounds_toArray, List.set_cons_zero, List.set_cons_succ]
        refine wpAnyH_take (i := 8) (v := ?_) rfl (by kernel_rfl) (by kernel_rfl) (by kernel_rfl) (fun _ _ _ h => h) (Or.inl ⟨by rfl, ?_⟩) hHeld ?_
        rotate_left
        · intro w' hSw
          try dsimp only at hSw
          go_simp
          all_goals with_reducible rfl
        try simp only [List.getElem_toArray, List.getElem_cons_succ, List.getElem_cons_zero, Act.put, List.setIfInBounds_toArray, List.set_cons_zero, List.set_cons_succ]
        refine wpAnyH_take (i := 9) (v := undef) rfl (by kernel_rfl) (by kernel_rfl) (by kernel_rfl) (fun _ _ _ h => h) (Or.inr ⟨by rfl, rfl⟩) hHeld ?_
        try simp only [List.getElem_toArray, List.getElem_cons_succ, List.getElem_cons_zero, Act.put, List.setIfInBounds_toArray, List.set_cons_zero, List.set_cons_succ]
        refine wpAnyH_take (i := 10) (v := undef) rfl (by kernel_rfl) (by kernel_rfl) (by kernel_rfl) (fun _ _ _ h => h) (Or.inr ⟨by rfl, rfl⟩) hHeld ?_
        try simp only [List.getElem_toArray, List.getElem_cons_succ, List.getElem_cons_zero, Act.put, List.setIfInBounds_toArray, List.set_cons_zero, List.set_cons_succ]
        refine wpAnyH_take (i := 11) (v := undef) rfl (by kernel_rfl) (by kernel_rfl) (by kernel_rfl) (fun _ _ _ h => h) (Or.inr ⟨by rfl, rfl⟩) hHeld ?_
        try simp only [List.getElem_toArray, List.getElem_cons_succ, List.getElem_cons_zero, Act.put, List.setIfInBounds_toArray, List.set_cons_zero, List.set_cons_succ]
        refine wpAnyH_take (i := 12) (v := undef) rfl (by kernel_rfl) (by kernel_rfl) (by kernel_rfl) (fun _ _ _ h => h) (Or.inr ⟨by rfl, rfl⟩) hHeld ?_
        try simp only [List.getElem_toArray, List.getElem_cons_succ, List.getElem_cons_zero, Act.put, List.setIfInBounds_toArray, List.set_cons_zero, List.set_cons_succ]
        refine wpAnyH_take (i := 13) (v := ?_) rfl (by kernel_rfl) (by kernel_rfl) (by kernel_rfl) (fun _ _ _ h => h) (Or.inl ⟨by rfl, ?_⟩) hHeld ?_
        rotate_left
        · intro w' hSw
          try dsimp only at hSw
          go_simp
          all_goals with_reducible rfl
        try simp only [List.getElem_toArray, List.getElem_cons_succ, List.getElem_cons_zero, Act.put, List.setIfInBounds_toArray, List.set_cons_zero, List.set_cons_succ]
        refine wpAnyH_take (i := 14) (v := ?_) rfl (by kernel_rfl) (by kernel_rfl) (by kernel_rfl) (fun _ _ _ h => h) (Or.inl ⟨by rfl, ?_⟩) hHeld ?_
        rotate_left
        · intro w' hSw
          try dsimp only at hSw
          go_simp
          all_goals with_reducible rfl
        try simp only [List.getElem_toArray, List.getElem_cons_succ, List.getElem_cons_zero, Act.put, List.setIfInBounds_toArray, List.set_cons_zero, List.set_cons_succ]
        refine wpAnyH_take (i := 15) (v := ?_) rfl (by kernel_rfl) (by kernel_rfl) (by kernel_rfl) (fun _ _ _ h => h) (Or.inl ⟨by rfl, ?_⟩) hHeld ?_
        rotate_left
        · intro w' hSw
          try dsimp only at hSw
          go_simp
          all_goals with_reducible rfl
        try simp only [List.getElem_toArray, List.getElem_cons_succ, List.getElem_cons_zero, Act.put, List.setIfInBounds_toArray, List.set_cons_zero, List.set_cons_succ]
        refine wpAnyH_take (i := 16) (v := ?_) rfl (by kernel_rfl) (by kernel_rfl) (by kernel_rfl) (fun _ _ _ h => h) (Or.inl ⟨by rfl, ?_⟩) hHeld ?_
        rotate_left
        · intro w' hSw
          try dsimp only at hSw
          go_simp
          all_goals with_reducible rfl
        try simp only [List.getElem_toArray, List.getElem_cons_succ, List.getElem_cons_zero, Act.put, List.setIfInBounds_toArray, List.set_cons_zero, List.set_cons_succ]
        refine wpAnyH_take (i := 17) (v := ?_) rfl (by kernel_rfl) (by kernel_rfl) (by kernel_rfl) (fun _ _ _ h => h) (Or.inl ⟨by rfl, ?_⟩) hHeld ?_
        rotate_left
        · intro w' hSw
          try dsimp only at hSw
          go_simp
          all_goals with_reducible rfl
        try simp only [List.getElem_toArray, List.getElem_cons_succ, List.getElem_cons_zero, Act.put, List.setIfInBounds_toArray, List.set_cons_zero, List.set_cons_succ]
        refine wpAnyH_take (i := 18) (v := ?_) rfl (by kernel_rfl) (by kernel_rfl) (by kernel_rfl) (fun _ _ _ h => h) (Or.inl ⟨by rfl, ?_⟩) hHeld ?_
        rotate_left
        · intro w' hSw
          try dsimp only at hSw
          go_simp
          all_goals with_reducible rfl
        try simp only [List.getElem_toArray, List.getElem_cons_succ, List.getElem_cons_zero, Act.put, List.setIfInBounds_toArray, List.set_cons_zero, List.set_cons_succ]
        refine wpAnyH_take (i := 19) (v := ?_) rfl (by kernel_rfl) (by kernel_rfl) (by kernel_rfl) (fun _ _ _ h => h) (Or.inl ⟨by rfl, ?_⟩) hHeld ?_
        rotate_left
        · intro w' hSw
          try dsimp only at hSw
          go_simp
          all_goals with_reducible rfl
        try simp only [List.getElem_toArray, List.getElem_cons_succ, List.getElem_cons_zero, Act.put, List.setIfInBounds_toArray, List.set_cons_zero, List.set_cons_succ]
        refine wpAnyH_take (i := 20) (v := ?_) rfl (by kernel_rfl) (by kernel_rfl) (by kernel_rfl) (fun _ _ _ h => h) (Or.inl ⟨by rfl, ?_⟩) hHeld ?_
        rotate_left
        · intro w' hSw
          try dsimp only at hSw
          go_simp
          all_goals with_reducible rfl
        try simp only [List.getElem_toArray, List.getElem_cons_succ, List.getElem_cons_zero, Act.put, List.setIfInBounds_toArray, List.set_cons_zero, List.set_cons_succ]
        refine wpAnyH_take (i := 21) (v := ?_) rfl (by kernel_rfl) (by kernel_rfl) (by kernel_rfl) (fun _ _ _ h => h) (Or.inl ⟨by rfl, ?_⟩) hHeld ?_
        rotate_left
        · intro w' hSw
          try dsimp only at hSw
          go_simp
          all_goals with_reducible rfl
        try simp only [List.getElem_toArray, List.getElem_cons_succ, List.getElem_cons_zero, Act.put, List.setIfInBounds_toArray, List.set_cons_zero, List.set_cons_succ]
        refine wpAnyH_take (i := 22) (v := ?_) rfl (by kernel_rfl) (by kernel_rfl) (by kernel_rfl) (fun _ _ _ h => h) (Or.inl ⟨by rfl, ?_⟩) hHeld ?_
        rotate_left
        · intro w' hSw
          try dsimp only at hSw
          go_simp
          all_goals with_reducible rfl
        try simp only [List.getElem_toArray, List.getElem_cons_succ, List.getElem_cons_zero, Act.put, List.setIfInBounds_toArray, List.set_cons_zero, List.set_cons_succ]
        refine wpAnyH_take (i := 23) (v := ?_) rfl (by kernel_rfl) (by kernel_rfl) (by kernel_rfl) (fun _ _ _ h => h) (Or.inl ⟨by rfl, ?_⟩) hHeld ?_
        rotate_left
        · intro w' hSw
          try dsimp only at hSw
          go_simp
          all_goals with_reducible rfl
        try simp only [List.getElem_toArray, List.getElem_cons_succ, List.getElem_cons_zero, Act.put, List.setIfInBounds_toArray, List.set_cons_zero, List.set_cons_succ]
        refine wpAnyH_take (i := 24) (v := ?_) rfl (by kernel_rfl) (by kernel_rfl) (by kernel_rfl) (fun _ _ _ h => h) (Or.inl ⟨by rfl, ?_⟩) hHeld ?_
        rotate_left
        · intro w' hSw
          try dsimp only at hSw
          go_simp
          all_goals with_reducible rfl
        try simp only [List.getElem_toArray, List.getElem_cons_succ, List.getElem_cons_zero, Act.put, List.setIfInBounds_toArray, List.set_cons_zero, List.set_cons_succ]
        refine wpAnyH_take (i := 25) (v := ?_) rfl (by kernel_rfl) (by kernel_rfl) (by kernel_rfl) (fun _ _ _ h => h) (Or.inl ⟨by rfl, ?_⟩) hHeld ?_
        rotate_left
        · intro w' hSw
          try dsimp only at hSw
          go_simp
          all_goals with_reducible rfl
        try simp only [List.getElem_toArray, List.getElem_cons_succ, List.getElem_cons_zero, Act.put, List.setIfInBounds_toArray, List.set_cons_zero, List.set_cons_succ]
        refine wpAnyH_ready (rs := [26]) (by kernel_rfl) (by simp) ?_
        refine AllReadyH.cons rfl (fun K hK => ?_) AllReadyH.nil
        go_simp
        refine (ha.out _ hHeld.2.2.2.2.2.2.2.2.2.2.2.2.2.2.2.1).mono ?_
        first | rintro e w9 rfl hb | rintro e w9 ⟨rfl, hb⟩
        refine hK.out _ _ ?_ (fun hHeld => ?_)
        · (try dsimp only)
          exact SR.next hHeld hb
        clear hK K
        refine wpAnyH_take (i := 27) (v := ?_) rfl (by kernel_rfl) (by kernel_rfl) (by kernel_rfl) (fun _ _ _ h => h) (Or.inl ⟨by rfl, ?_⟩) hHeld ?_
        rotate_left
        · intro w' hSw
          try dsimp only at hSw
          go_simp
          all_goals with_reducible rfl
        try simp only [List.getElem_toArray, List.getElem_cons_succ, List.getElem_cons_zero, Act.put, List.setIfInBounds_toArray, List.set_cons_zero, List.set_cons_succ]
        refine wpAnyH_take (i := 28) (v := ?_) rfl (by kernel_rfl) (by kernel_rfl) (by kernel_rfl) (fun _ _ _ h => h) (Or.inl ⟨by rfl, ?_⟩) hHeld ?_
        rotate_left
        · intro w' hSw
          try dsimp only at hSw
          go_simp
          all_goals with_reducible rfl
        try simp only [List.getElem_toArray, List.getElem_cons_succ, List.getElem_cons_zero, Act.put, List.setIfInBounds_toArray, List.set_cons_zero, List.set_cons_succ]
        refine wpAnyH_done (by kernel_rfl) ?_ _
        go_wp2_with fail
        go_ret
        exact ⟨rfl, hHeld.2.2.2.2.2.2.2.2.2.2.2.2.2.2.2.1⟩
      · have hiv : insV r4 L A B C D = .agg #[.int .i64 (A r4.toNat), .int .i64 (B r4.toNat), .int .i64 (C r4.toNat), .int .i64 (D r4.toNat)] := by unfold insV; rw [if_pos hn]
        rw [hiv, hn]
        clear hiv
        have hs1 := hs0 (A r4.toNat) (B r4.toNat) (C r4.toNat) (D r4.toNat)
        clear hs0
        generalize A r4.toNat = xa at *
        generalize B r4.toNat = xb at *
        generalize C r4.toNat = xc at *
        generalize D r4.toNat = xd at *
        go_wp2_with fail
        have hm2 : ¬ most ≤ (j : Int) := by omega
        have hm3 : decide (most ≤ (j : Int)) = false := decide_eq_false hm2
        refine wp_region_held_drew (S := (fun W => W.cell? ⟨P, 0, none⟩ = some (.int .i64 r0) ∧ W.cell? ⟨P, 1, none⟩ = some (.int .i64 r1) ∧ W.cell? ⟨P, 2, none⟩ = some (.int .i64 r2) ∧ W.cell? ⟨P, 3, none⟩ = some (.int .i64 r3) ∧ W.cell? ⟨P, 4, none⟩ = some (.int .i64 r4) ∧ W.cell? ⟨P, 5, none⟩ = some (.int .i64 r5) ∧ W.cell? ⟨P, 6, none⟩ = some (.bool b6) ∧ W.cell? ⟨w1.heap.size, 0, none⟩ = some (.int .i64 r0) ∧ W.cell? ⟨w1.heap.size, 1, none⟩ = some (.int .i64 r1) ∧ W.cell? ⟨w1.heap.size, 2, none⟩ = some (.int .i64 r2) ∧ W.cell? ⟨w1.heap.size, 3, none⟩ = some (.int .i64 r3) ∧ W.cell? ⟨w1.heap.size, 4, none⟩ = some (.int .i64 r4) ∧ W.cell? ⟨w1.heap.size, 5, none⟩ = some (.int .i64 r5) ∧ W.cell? ⟨w1.heap.size, 6, none⟩ = some (.bool b6) ∧ W.cell? ⟨w5.heap.size, 0, none⟩ = some (.int .i64 xa) ∧ Below w.heap.size w W ∧ P < W.heap.size ∧ w1.heap.size < W.heap.size ∧ w5.heap.size < W.heap.size)) (by kernel_rfl) ?_ (fun hHeld => ?_)
        · exact SR.drew hs1
        refine wpAnyH_take (i := 0) (v := ?_) rfl (by kernel_rfl) (by kernel_rfl) (by kernel_rfl) (fun _ _ _ h => h) (Or.inl ⟨by rfl, ?_⟩) hHeld ?_
        rotate_left
        · intro w' hSw
          try dsimp only at hSw
          go_simp
          all_goals with_reducible rfl
        try simp only [List.getElem_toArray, List.getElem_cons_zero, Act.put, List.setIfInBounds_toArray, List.set_cons_zero, List.set_cons_succ]
        refine wpAnyH_take (i := 1) (v := ?_) rfl (by kernel_rfl) (by kernel_rfl) (by kernel_rfl) (fun _ _ _ h => h) (Or.inl ⟨by rfl, ?_⟩) hHeld ?_
        rotate_left
        · intro w' hSw
          try dsimp only at hSw
          go_simp
          all_goals with_reducible rfl
        try simp only [List.getElem_toArray, List.getElem_cons_succ, List.getElem_cons_zero, Act.put, List.setIfInBounds_toArray, List.set_cons_zero, List.set_cons_succ]
        refine wpAnyH_take (i := 2) (v := ?_) rfl (by kernel_rfl) (by kernel_rfl) (by kernel_rfl) (fun _ _ _ h => h) (Or.inl ⟨by rfl, ?_⟩) hHeld ?_
        rotate_left
        · intro w' hSw
          try dsimp only at hSw
          go_simp
          all_goals with_reducible rfl
        try simp only [List.getElem_toArray, List.getElem_cons_succ, List.getElem_cons_zero, Act.put, List.setIfInBounds_toArray, List.set_cons_zero, List.set_cons_succ]
        refine wpAnyH_take (i := 3) (v := ?_) rfl (by kernel_rfl) (by kernel_rfl) (by kernel_rfl) (fun _ _ _ h => h) (Or.inl ⟨by rfl, ?_⟩) hHeld ?_
        rotate_left
        · intro w' hSw
          try dsimp only at hSw
          go_simp
          all_goals with_reducible rfl
        try simp only [List.getElem_toArray, List.getElem_cons_succ, List.getElem_cons_zero, Act.put, List.setIfInBounds_toArray, List.set_cons_zero, List.set_cons_succ]
        refine wpAnyH_take (i := 4) (v := ?_) rfl (by kernel_rfl) (by kernel_rfl) (by kernel_rfl) (fun _ _ _ h => h) (Or.inl ⟨by rfl, ?_⟩) hHeld ?_
        rotate_left
        · intro w' hSw
          try dsimp only at hSw
          go_simp
          all_goals with_reducible rfl
        try simp only [List.getElem_toArray, List.getElem_cons_succ, List.getElem_cons_zero, Act.put, List.setIfInBounds_toArray, List.set_cons_zero, List.set_cons_succ]
        refine wpAnyH_take (i := 5) (v := ?_) rfl (by kernel_rfl) (by kernel_rfl) (by kernel_rfl) (fun _ _ _ h => h) (Or.inl ⟨by rfl, ?_⟩) hHeld ?_
        rotate_left
        · intro w' hSw
          try dsimp only at hSw
          go_simp
          all_goals with_reducible rfl
        try simp only [List.getElem_toArray, List.getElem_cons_succ, List.getElem_cons_zero, Act.put, List.setIfInBounds_toArray, List.set_cons_zero, List.set_cons_succ]
        refine wpAnyH_take (i := 6) (v := ?_) rfl (by kernel_rfl) (by kernel_rfl) (by kernel_rfl) (fun _ _ _ h => h) (Or.inl ⟨by rfl, ?_⟩) hHeld ?_
        rotate_left
        · intro w' hSw
          try dsimp only at hSw
          go_simp
          all_goals with_reducible rfl
        try simp only [List.getElem_toArray, List.getElem_cons_succ, List.getElem_cons_zero, Act.put, List.setIfInBounds_toArray, List.set_cons_zero, List.set_cons_succ]
        refine wpAnyH_take (i := 7) (v := ?_) rfl (by kernel_rfl) (by kernel_rfl) (by kernel_rfl) (fun _ _ _ h => h) (Or.inl ⟨by rfl, ?_⟩) hHeld ?_
        rotate_left
        · intro w' hSw
          try dsimp only at hSw
          go_simp
          all_goals with_reducible rfl
        try simp only [List.getElem_toArray, List.getElem_cons_succ, List.getElem_cons_zero, Act.put, List.setIfInBounds_toArray, List.set_cons_zero, List.set_cons_succ]
        refine wpAnyH_take (i := 8) (v := ?_) rfl (by kernel_rfl) (by kernel_rfl) (by kernel_rfl) (fun _ _ _ h => h) (Or.inl ⟨by rfl, ?_⟩) hHeld ?_
        rotate_left
        · intro w' hSw
          try dsimp only at hSw
          go_simp
          all_goals with_reducible rfl
        try simp only [List.getElem_toArray, List.getElem_cons_succ, List.getElem_cons_zero, Act.put, List.setIfInBounds_toArray, List.set_cons_zero, List.set_cons_succ]
        refine wpAnyH_take (i := 9) (v := ?_) rfl (by kernel_rfl) (by kernel_rfl) (by kernel_rfl) (fun _ _ _ h => h) (Or.inl ⟨by rfl, ?_⟩) hHeld ?_
        rotate_left
        · intro w' hSw
          try dsimp only at hSw
          go_simp
          all_goals with_reducible rfl
        try simp only [List.getElem_toArray, List.getElem_cons_succ, List.getElem_cons_zero, Act.put, List.setIfInBounds_toArray, List.set_cons_zero, List.set_cons_succ]
        refine wpAnyH_take (i := 10) (v := ?_) rfl (by kernel_rfl) (by kernel_rfl) (by kernel_rfl) (fun _ _ _ h => h) (Or.inl ⟨by rfl, ?_⟩) hHeld ?_
        rotate_left
        · intro w' hSw
          try dsimp only at hSw
          go_simp
          all_goals with_reducible rfl
        try simp only [List.getElem_toArray, List.getElem_cons_succ, List.getElem_cons_zero, Act.put, List.setIfInBounds_toArray, List.set_cons_zero, List.set_cons_succ]
        refine wpAnyH_ready (rs := [11]) (by kernel_rfl) (by simp) ?_
        refine AllReadyH.cons rfl (fun K hK => ?_) AllReadyH.nil
        go_simp
        refine (loc_f _ false hloc _).mono ?_
        first | rintro e w9 rfl rfl | rintro e w9 ⟨rfl, rfl⟩
        refine hK.out _ _ ?_ (fun hHeld => ?_)
        · (try dsimp only)
          exact hHeld
        clear hK K
        refine wpAnyH_take (i := 12) (v := ?_) rfl (by kernel_rfl) (by kernel_rfl) (by kernel_rfl) (fun _ _ _ h => h) (Or.inl ⟨by rfl, ?_⟩) hHeld ?_
        rotate_left
        · intro w' hSw
          try dsimp only at hSw
          go_simp
          all_goals with_reducible rfl
        try simp only [List.getElem_toArray, List.getElem_cons_succ, List.getElem_cons_zero, Act.put, List.setIfInBounds_toArray, List.set_cons_zero, List.set_cons_succ]
        refine wpAnyH_take (i := 13) (v := ?_) rfl (by kernel_rfl) (by kernel_rfl) (by kernel_rfl) (fun _ _ _ h => h) (Or.inl ⟨by rfl, ?_⟩) hHeld ?_
        rotate_left
        · intro w' hSw
          try dsimp only at hSw
          go_simp
          all_goals with_reducible rfl
        try simp only [List.getElem_toArray, List.getElem_cons_succ, List.getElem_cons_zero, Act.put, List.setIfInBounds_toArray, List.set_cons_zero, List.set_cons_succ]
        refine wpAnyH_take (i := 14) (v := ?_) rfl (by kernel_rfl) (by kernel_rfl) (by kernel_rfl) (fun _ _ _ h => h) (Or.inl ⟨by rfl, ?_⟩) hHeld ?_
        rotate_left
        · intro w' hSw
          try dsimp only at hSw
          go_simp
          all_goals with_reducible rfl
        try simp only [List.getElem_toArray, List.getElem_cons_succ, List.getElem_cons_zero, Act.put, List.setIfInBounds_toArray, List.set_cons_zero, List.set_cons_succ]
        refine wpAnyH_take (i := 15) (v := ?_) rfl (by kernel_rfl) (by kernel_rfl) (by kernel_rfl) (fun _ _ _ h => h) (Or.inl ⟨by rfl, ?_⟩) hHeld ?_
        rotate_left
        · intro w' hSw
          try dsimp only at hSw
          go_simp
          all_goals with_reducible rfl
        try simp only [List.getElem_toArray, List.getElem_cons_succ, List.getElem_cons_zero, Act.put, List.setIfInBounds_toArray, List.set_cons_zero, List.set_cons_succ]
        refine wpAnyH_take (i := 16) (v := ?_) rfl (by kernel_rfl) (by kernel_rfl) (by kernel_rfl) (fun _ _ _ h => h) (Or.inl ⟨by rfl, ?_⟩) hHeld ?_
        rotate_left
        · intro w' hSw
          try dsimp only at hSw
          go_simp
          all_goals with_reducible rfl
        try simp only [List.getElem_toArray, List.getElem_cons_succ, List.getElem_cons_zero, Act.put, List.setIfInBounds_toArray, List.set_cons_zero, List.set_cons_succ]
        refine wpAnyH_take (i := 17) (v := ?_) rfl (by kernel_rfl) (by kernel_rfl) (by kernel_rfl) (fun _ _ _ h => h) (Or.inl ⟨by rfl, ?_⟩) hHeld ?_
        rotate_left
        · intro w' hSw
          try dsimp only at hSw
          go_simp
          all_goals with_reducible rfl
        try simp only [List.getElem_toArray, List.getElem_cons_succ, List.getElem_cons_zero, Act.put, List.setIfInBounds_toArray, List.set_cons_zero, List.set_cons_succ]
        refine wpAnyH_take (i := 18) (v := ?_) rfl (by kernel_rfl) (by kernel_rfl) (by kernel_rfl) (fun _ _ _ h => h) (Or.inl ⟨by rfl, ?_⟩) hHeld ?_
        rotate_left
        · intro w' hSw
          try dsimp only at hSw
          go_simp
          all_goals with_reducible rfl
        try simp only [List.getElem_toArray, List.getElem_cons_succ, List.getElem_cons_zero, Act.put, List.setIfInBounds_toArray, List.set_cons_zero, List.set_cons_succ]
        refine wpAnyH_take (i := 19) (v := ?_) rfl (by kernel_rfl) (by kernel_rfl) (by kernel_rfl) (fun _ _ _ h => h) (Or.inl ⟨by rfl, ?_⟩) hHeld ?_
        rotate_left
        · intro w' hSw
          try dsimp only at hSw
          go_simp
          all_goals with_reducible rfl
        try simp only [List.getElem_toArray, List.getElem_cons_succ, List.getElem_cons_zero, Act.put, List.setIfInBounds_toArray, List.set_cons_zero, List.set_cons_succ]
        refine wpAnyH_take (i := 20) (v := ?_) rfl (by kernel_rfl) (by kernel_rfl) (by kernel_rfl) (fun _ _ _ h => h) (Or.inl ⟨by rfl, ?_⟩) hHeld ?_
        rotate_left
        · intro w' hSw
          try dsimp only at hSw
          go_simp
          all_goals with_reducible rfl
        try simp only [List.getElem_toArray, List.getElem_cons_succ, List.getElem_cons_zero, Act.put, List.setIfInBounds_toArray, List.set_cons_zero, List.set_cons_succ]
        refine wpAnyH_take (i := 21) (v := ?_) rfl (by kernel_rfl) (by kernel_rfl) (by kernel_rfl) (fun _ _ _ h => h) (Or.inl ⟨by rfl, ?_⟩) hHeld ?_
        rotate_left
        · intro w' hSw
          try dsimp only at hSw
          go_simp
          all_goals with_reducible rfl
        try simp only [List.getElem_toArray, List.getElem_cons_succ, List.getElem_cons_zero, Act.put, List.setIfInBounds_toArray, List.set_cons_zero, List.set_cons_succ]
        refine wpAnyH_take (i := 22) (v := ?_) rfl (by kernel_rfl) (by kernel_rfl) (by kernel_rfl) (fun _ _ _ h => h) (Or.inl ⟨by rfl, ?_⟩) hHeld ?_
        rotate_left
        · intro w' hSw
          try dsimp only at hSw
          go_simp
          all_goals with_reducible rfl
        try simp only [List.getElem_toArray, List.getElem_cons_succ, List.getElem_cons_zero, Act.put, List.setIfInBounds_toArray, List.set_cons_zero, List.set_cons_succ]
        refine wpAnyH_take (i := 23) (v := ?_) rfl (by kernel_rfl) (by kernel_rfl) (by kernel_rfl) (fun _ _ _ h => h) (Or.inl ⟨by rfl, ?_⟩) hHeld ?_
        rotate_left
        · intro w' hSw
          try dsimp only at hSw
          go_simp
          all_goals with_reducible rfl
        try simp only [List.getElem_toArray, List.getElem_cons_succ, List.getElem_cons_zero, Act.put, List.setIfInBounds_toArray, List.set_cons_zero, List.set_cons_succ]
        refine wpAnyH_take (i := 24) (v := ?_) rfl (by kernel_rfl) (by kernel_rfl) (by kernel_rfl) (fun _ _ _ h => h) (Or.inl ⟨by rfl, ?_⟩) hHeld ?_
        rotate_left
        · intro w' hSw
          try dsimp only at hSw
          go_simp
          all_goals with_reducible rfl
        try simp only [List.getElem_toArray, List.getElem_cons_succ, List.getElem_cons_zero, Act.put, List.setIfInBounds_toArray, List.set_cons_zero, List.set_cons_succ]
        refine wpAnyH_take (i := 25) (v := ?_) rfl (by kernel_rfl) (by kernel_rfl) (by kernel_rfl) (fun _ _ _ h => h) (Or.inl ⟨by rfl, ?_⟩) hHeld ?_
        rotate_left
        · intro w' hSw
          try dsimp only at hSw
          go_simp
          all_goals with_reducible rfl
        try simp only [List.getElem_toArray, List.getElem_cons_succ, List.getElem_cons_zero, Act.put, List.setIfInBounds_toArray, List.set_cons_zero, List.set_cons_succ]
        refine wpAnyH_ready (rs := [26]) (by kernel_rfl) (by simp) ?_
        refine AllReadyH.cons rfl (fun K hK => ?_) AllReadyH.nil
        go_simp
        refine (ha.out _ hHeld.2.2.2.2.2.2.2.2.2.2.2.2.2.2.2.1).mono ?_
        first | rintro e w9 rfl hb | rintro e w9 ⟨rfl, hb⟩
        refine hK.out _ _ ?_ (fun hHeld => ?_)
        · (try dsimp only)
          exact SR.next hHeld hb
        clear hK K
        refine wpAnyH_take (i := 27) (v := ?_) rfl (by kernel_rfl) (by kernel_rfl) (by kernel_rfl) (fun _ _ _ h => h) (Or.inl ⟨by rfl, ?_⟩) hHeld ?_
        rotate_left
        · intro w' hSw
          try dsimp only at hSw
          go_simp
          all_goals with_reducible rfl
        try simp only [List.getElem_toArray, List.getElem_cons_succ, List.getElem_cons_zero, Act.put, List.setIfInBounds_toArray, List.set_cons_zero, List.set_cons_succ]
        refine wpAnyH_take (i := 28) (v := ?_) rfl (by kernel_rfl) (by kernel_rfl) (by kernel_rfl) (fun _ _ _ h => h) (Or.inl ⟨by rfl, ?_⟩) hHeld ?_
        rotate_left
        · intro w' hSw
          try dsimp only at hSw
          go_simp
          all_goals with_reducible rfl
        try simp only [List.getElem_toArray, List.getElem_cons_succ, List.getElem_cons_zero, Act.put, List.setIfInBounds_toArray, List.set_cons_zero, List.set_cons_succ]
        refine wpAnyH_done (by kernel_rfl) ?_ _
        go_wp2_with fail
        go_ret
        exact ⟨rfl, hHeld.2.2.2.2.2.2.2.2.2.2.2.2.2.2.2.1⟩

/-! ### The law, where there is no core -/
theorem runs_long (wd most : Int) (av : Option Addr) (L c : Nat) (hL : L ≤ maxLen) (h : 40 < L ∨ 100 < most) (w : World) (ha : Hid (AwOk w)) : Calls Tryd.prog 11 #[.slice av L c, .int .i64 wd, .int .i64 most] w fun e w' => e = .returned (.bool true) ∧ Below w.heap.size w w' := by
  by_cases h1 : 40 < L
  · have h0 : (40 : Int) < (L : Int) := by omega
    clear h
    go_enter Tryd.func11, Tryd.ntmps11
    go_wp2_with (go_at_call 36; refine (ha.out _ (.refl _ _)).mono ?_)
    rintro e w' ⟨rfl, hb⟩
    go_wp2
    go_ret
    exact ⟨rfl, hb⟩
  · have h0 : ¬ (40 : Int) < (L : Int) := by omega
    have h2 : 100 < most := by omega
    clear h
    go_enter Tryd.func11, Tryd.ntmps11
    go_wp2_with (go_at_call 36; refine (ha.out _ (.refl _ _)).mono ?_)
    first | rintro e w' rfl hb | rintro e w' ⟨rfl, hb⟩
    apply_assumption
    go_wp2
    go_ret
    exact ⟨rfl, hb⟩
theorem runs_none (wd most x : Int) (av : Option Addr) (L c : Nat) (hL : L ≤ maxLen) (h : ¬ 40 < L) (hm : ¬ 100 < most) (hx : x ≠ 0) (w : World) (ha : Hid (AwOk w))
    (hN : Calls Tryd.prog 37 #[.int .i64 0, .int .i64 wd, .slice av L c] w fun r w' => r = .returned (.tuple #[.pointer none, .int .i64 x]) ∧ Below w.heap.size w w') : Calls Tryd.prog 11 #[.slice av L c, .int .i64 wd, .int .i64 most] w fun e w' => e = .returned (.bool true) ∧ Below w.heap.size w w' := by
  have h0 : ¬ (40 : Int) < (L : Int) := by omega
  have hN := hide hN
  have hx0 : (x == 0) = false := by simpa using hx
  have hx1 : (x != 0) = true := by simpa using hx
  go_enter Tryd.func11, Tryd.ntmps11
  go_wp2_with (go_at_call 37; refine hN.out.mono ?_)
  first | rintro e w1 rfl hb1 | rintro e w1 ⟨rfl, hb1⟩
  apply_assumption
  go_wp2_with (go_at_call 36; refine (ha.out _ hb1).mono ?_)
  first | rintro e w4 rfl hb4 | rintro e w4 ⟨rfl, hb4⟩
  go_wp2
  go_ret
  exact ⟨rfl, hb1.trans (hb4.mono hb1.size)⟩
theorem runs_law (wd most : Int) (av : Option Addr) (L c : Nat) (A B C D : Nat → Int) (hL : L ≤ maxLen) (w : World) (T : Tab w) (hT : ∀ (p : Pg) τ no, TabsIn (stE p τ no) 9 tsY15 w) (hl : OpsIn w av L A B C D) (ha : AwOk w) : Calls Tryd.prog 11 #[.slice av L c, .int .i64 wd, .int .i64 most] w fun e w' => e = .returned (.bool true) ∧ Below w.heap.size w w' := by
  by_cases h : 40 < L ∨ 100 < most
  · exact runs_long wd most av L c hL h w (hide ha)
  · have h1 : ¬ 40 < L := fun e => h (.inl e)
    have h2 : ¬ 100 < most := fun e => h (.inr e)
    by_cases hr : 0 ≤ wd ∧ wd ≤ 3
    · by_cases hq : (chkE L A B C D).2 = 0
      · exact runs_ok wd most av L c A B C D hL h1 h2 hr w T hT hl hq (hide ha)
      · exact runs_none wd most _ av L c hL h1 h2 hq w (hide ha) (new_bad 0 wd ⟨by omega, by omega, hr.1, hr.2⟩ w T hl hq)
    · exact runs_none wd most 10 av L c hL h1 h2 (by decide) w (hide ha) (new_range 0 wd (fun e => hr e.2.2) w)
end Go.Proofs.YtfiangiajhdhcaaDoor
