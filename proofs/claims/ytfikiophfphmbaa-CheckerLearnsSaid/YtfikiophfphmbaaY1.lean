/- does, of a checker and the reference: Begin. -/
import Derived.Test.YtfikiophfphmbaaP2
import Derived.Test.YtfikiophfphmbaaV9
import Derived.Test.YtfikiophfphmbaaX2
import Derived.Test.YtfikiophfphmbaaF1
import Derived.Test.YtfikiophfphmbaaN5
import Derived.WalkKit
import Derived.WalkSpells
import Derived.ProofKit
import Derived.Outline
import Derived.Handy
import Derived.RowKit3
import Derived.BigQuiet
import Derived.Deep.QuietTactic
import Derived.Deep.RegionHeld3
import Derived.Deep.Draws
import Derived.Deep.RegionLaw
import Derived.RegionTactic
import Derived.BigRegion
import Derived.IntWalk
import Derived.LoopTactic
import Derived.OwnWalk
import Derived.Laws.AppendOwn
import Derived.Laws.OwnMore
import Derived.Laws.MakeOwn
import Derived.Laws.Pointers
import Derived.Maps.AppendAt
import Derived.Deep.AppendLies
import Derived.Below
namespace Go.Proofs.Ytfikiophfphmbaa
open Go.RowKit
set_option linter.unusedVariables false
set_option maxRecDepth 100000

def AskR (w : World) (r : Ending) (w' : World) : Prop := (∃ n e, r = .returned (.tuple #[.int .i64 n, .int .i64 e])) ∧ Below w.heap.size w w'
/-- A checker and the reference's, that do not share. -/
structure Tw (w0 w : World) (P en gs : Nat) (ws st : Bool) (gr at_ : Int) (v : Value) (ks : List (Int × Int)) (R : Nat) (G O : Value) (n : Nat) (wk ra : Int) (rst : Bool) : Prop where
  k : Ck w P ws st gr at_ en gs v ks
  i : Inv gs ws gr ks
  r : Rk w R en gs G O n wk ra rst
  dis : ∀ b, Ck.S P v b → ¬ Rk.S R G O b
  lk : ∀ b, Ck.S P v b → w0.heap.size ≤ b
  lr : ∀ b, Rk.S R G O b → w0.heap.size ≤ b
  bel : Below w0.heap.size w0 w
def TwE (w0 w : World) (P en gs R : Nat) : Prop := ∃ ws st gr at_ v ks G O n wk ra rst, Tw w0 w P en gs ws st gr at_ v ks R G O n wk ra rst
section
variable {w0 w w' : World} {P en gs R n : Nat} {ws st rst : Bool} {gr at_ wk ra : Int} {v G O : Value} {ks : List (Int × Int)}
theorem Tw.next (h : Tw w0 w P en gs ws st gr at_ v ks R G O n wk ra rst) (b : Below w.heap.size w w') : Tw w0 w' P en gs ws st gr at_ v ks R G O n wk ra rst :=
  ⟨h.k.next b, h.i, h.r.next b, h.dis, h.lk, h.lr, below_step h.bel h.bel.size b⟩
/-- The world, all but a checker's blocks and the reference's, is as it was. -/
def Gone (w0 w w' : World) : Prop := Fr (fun b => w0.heap.size ≤ b ∧ b < w.heap.size) w w'
theorem Tw.went (h : Tw w0 w P en gs ws st gr at_ v ks R G O n wk ra rst) (g : Went P en gs v w w') : ∃ ws' st' gr' at' v' ks', Tw w0 w' P en gs ws' st' gr' at' v' ks' R G O n wk ra rst ∧ Fr (Ck.S P v) w w' := by
  obtain ⟨ws', st', gr', at', v', ks', k, i, f, s⟩ := g
  refine ⟨ws', st', gr', at', v', ks', ⟨k, i, h.r.fr f (fun b e e2 => h.dis b e2 e), fun b e e2 => ?_, fun b e => ?_, h.lr, h.bel.trans (f.below h.bel.size (fun b hb e => by have := h.lk b e; omega))⟩, f⟩
  · rcases s b e with e | e
    · exact h.dis b e e2
    · have := h.r.lt b e2; omega
  · rcases s b e with e | e
    · exact h.lk b e
    · exact Nat.le_trans h.bel.size e
theorem Tw.rent (h : Tw w0 w P en gs ws st gr at_ v ks R G O n wk ra rst) (g : Rent R en gs G O w w') : ∃ G' O' n' wk' ra' rst', Tw w0 w' P en gs ws st gr at_ v ks R G' O' n' wk' ra' rst' ∧ Fr (Rk.S R G O) w w' := by
  obtain ⟨G', O', n', wk', ra', rst', k, f, s⟩ := g
  refine ⟨G', O', n', wk', ra', rst', ⟨h.k.fr f (fun b e e2 => h.dis b e e2), h.i, k, fun b e e2 => ?_, h.lk, fun b e => ?_, h.bel.trans (f.below h.bel.size (fun b hb e => by have := h.lr b e; omega))⟩, f⟩
  · rcases s b e2 with e2 | e2
    · exact h.dis b e e2
    · have := h.k.lt b e; omega
  · rcases s b e with e | e
    · exact h.lr b e
    · exact Nat.le_trans h.bel.size e
theorem ask_any (wd g : Int) (w : World) (h : Ck w P ws st gr at_ en gs v ks) (i : Inv gs ws gr ks) : Calls Try.prog 22 #[.pointer (some ⟨P, 0, none⟩), .int .i64 wd, .int .i64 g] w (AskR w) := by
  by_cases hg : (0 ≤ g ∧ g < gs) ∧ 0 ≤ wd ∧ wd ≤ 3
  · rcases known_or ks g with hn | ⟨j, o, h1, h2⟩
    · exact (ask_miss wd g hg.1 hg.2 hn w h).mono fun r w' ⟨e, b⟩ => ⟨⟨_, _, e⟩, b⟩
    · exact (ask_known wd g o _ j hg.1 hg.2 h1 h2 rfl w h).mono fun r w' ⟨e, b⟩ => ⟨⟨_, _, e⟩, b⟩
  · exact (ask_range wd g hg w h).mono fun r w' ⟨e, b⟩ => ⟨⟨_, _, e⟩, b⟩
/-- Drop of any number. -/
theorem drop_int (g : Int) (w : World) (h : Ck w P ws st gr at_ en gs v ks) (i : Inv gs ws gr ks) : Calls Try.prog 12 #[.pointer (some ⟨P, 0, none⟩), .int .i64 g] w fun r w' => (∃ n e, r = .returned (.tuple #[.int .i64 n, .int .i64 e])) ∧ Went P en gs v w w' := by
  by_cases hm : g = -1
  · subst hm
    refine (drop_every w h).mono fun r w' ⟨⟨n, e⟩, v', k, f, s⟩ => ⟨⟨_, _, e⟩, _, _, _, _, _, _, k, ⟨fun e => ?_, List.Pairwise.nil, fun x hx => by cases hx⟩, f, fun b hb => .inl (hb.imp id (fun q => by rw [← s]; exact q))⟩
    obtain ⟨g, h1, h2, h3⟩ := i.w e
    exact ⟨g, h1, h2, fun x hx => by cases hx⟩
  · exact drop_any g hm w h i
def DoR (w0 : World) (P en gs R : Nat) (r : Ending) (w' : World) : Prop := (∃ b, r = .returned (.bool b)) ∧ TwE w0 w' P en gs R
theorem bx_fr {S : Nat → Prop} {B : Nat} {q g a b : Int} {w w' : World} (h : Bx B q g a b w) (f : Fr S w w') (hS : ¬ S B) : Bx B q g a b w' := ⟨Nat.lt_of_lt_of_le h.1 f.size, (f.cell h.1 hS).trans h.2.1, (f.cell h.1 hS).trans h.2.2.1, (f.cell h.1 hS).trans h.2.2.2.1, (f.cell h.1 hS).trans h.2.2.2.2⟩
theorem bx_new (q g a b : Int) (w : World) : Bx w.heap.size q g a b (w.alloc (.cells #[.int .i64 q, .int .i64 g, .int .i64 a, .int .i64 b] 58)) := ⟨by simp, World.cell?_alloc_new w _ 58 0, World.cell?_alloc_new w _ 58 1, World.cell?_alloc_new w _ 58 2, World.cell?_alloc_new w _ 58 3⟩
set_option maxHeartbeats 8000000 in
theorem does_0 (h1 : 1 ≤ en) (g a b : Int) (h : Tw w0 w P en gs ws st gr at_ v ks R G O n wk ra rst) : Calls Try.prog 20 #[.pointer (some ⟨P, 0, none⟩), .pointer (some ⟨R, 0, none⟩), .agg #[.int .i64 0, .int .i64 g, .int .i64 a, .int .i64 b]] w (DoR w0 P en gs R) := by
  have X0 := hide (bx_new 0 g a b w)
  have L1 := hide h.k.lt
  have L2 := hide h.r.lt
  have H1 := hide (h.next ((Below.refl _ _).alloc (Nat.le_refl _) (.cells #[.int .i64 0, .int .i64 g, .int .i64 a, .int .i64 b] 58)))
  clear h
  go_enter Try.func20, Try.ntmps20
  go_wp2_with fail
  refine (begin_any g _ H1.out.k H1.out.i).mono ?_
  rintro r w2 ⟨⟨n1, e1, rfl⟩, went⟩
  obtain ⟨ws2, st2, gr2, at2, v2, ks2, h2, f2⟩ := H1.out.went went
  have X2 := hide (bx_fr X0.out f2 (fun e => by have := L1.out _ e; omega))
  obtain ⟨z, z0, z1, z2, z3⟩ := X2.out
  have H2 := hide h2
  clear went h2 f2 X0 H1
  go_wp2_with fail
  refine (rbegin_any g _ H2.out.r).mono ?_
  rintro r w3 ⟨⟨n2, e2, rfl⟩, rent⟩
  obtain ⟨G3, O3, n3, wk3, ra3, rst3, h3, f3⟩ := H2.out.rent rent
  have H3 := hide h3
  clear rent h3 f3 z0 z1 z2 z3
  go_wp2
  all_goals
    go_ret
    exact ⟨⟨_, rfl⟩, _, _, _, _, _, _, _, _, _, _, _, _, H3.out⟩
end
end Go.Proofs.Ytfikiophfphmbaa
