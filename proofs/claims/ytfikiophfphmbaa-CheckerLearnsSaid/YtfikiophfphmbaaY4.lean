/- does, beside what is not its own: Begin. -/
import Derived.Test.YtfikiophfphmbaaP2
import Derived.Test.YtfikiophfphmbaaV9
import Derived.Test.YtfikiophfphmbaaX2
import Derived.Test.YtfikiophfphmbaaF1
import Derived.Test.YtfikiophfphmbaaN5
import Derived.Test.YtfikiophfphmbaaY1
import Derived.WalkKit
import Derived.WalkSpells
import Derived.ProofKit
import Derived.Outline
import Derived.Handy
import Derived.RowKit3
import Derived.BigQuiet
import Derived.Deep.QuietTactic
import Derived.Deep.RegionHeld3
import Derived.Deep.Draws
import Derived.Deep.RegionLaw
import Derived.RegionTactic
import Derived.BigRegion
import Derived.IntWalk
import Derived.LoopTactic
import Derived.OwnWalk
import Derived.Laws.AppendOwn
import Derived.Laws.OwnMore
import Derived.Laws.MakeOwn
import Derived.Laws.Pointers
import Derived.Maps.AppendAt
import Derived.Deep.AppendLies
import Derived.Below
namespace Go.Proofs.Ytfikiophfphmbaa
open Go.RowKit
set_option linter.unusedVariables false
set_option maxRecDepth 100000

/-- A checker and the reference's, that do not share, and leave what A holds. -/
structure Tv (A : Nat → Prop) (w0 w : World) (P en gs : Nat) (ws st : Bool) (gr at_ : Int) (v : Value) (ks : List (Int × Int)) (R : Nat) (G O : Value) (n : Nat) (wk ra : Int) (rst : Bool) : Prop where
  k : Ck w P ws st gr at_ en gs v ks
  i : Inv gs ws gr ks
  r : Rk w R en gs G O n wk ra rst
  dis : ∀ b, Ck.S P v b → ¬ Rk.S R G O b
  lk : ∀ b, Ck.S P v b → ¬ A b
  lr : ∀ b, Rk.S R G O b → ¬ A b
  al : ∀ b, A b → b < w0.heap.size
  bel : Fr (fun b => ¬ A b) w0 w
def TvE (A : Nat → Prop) (w0 w : World) (P en gs R : Nat) : Prop := ∃ ws st gr at_ v ks G O n wk ra rst, Tv A w0 w P en gs ws st gr at_ v ks R G O n wk ra rst
section
variable {A : Nat → Prop} {w0 w w' : World} {P en gs R n : Nat} {ws st rst : Bool} {gr at_ wk ra : Int} {v G O : Value} {ks : List (Int × Int)}
theorem Tv.next (h : Tv A w0 w P en gs ws st gr at_ v ks R G O n wk ra rst) (b : Below w.heap.size w w') : Tv A w0 w' P en gs ws st gr at_ v ks R G O n wk ra rst :=
  ⟨h.k.next b, h.i, h.r.next b, h.dis, h.lk, h.lr, h.al, h.bel.trans (Fr.of_below (S := fun _ => False) b) (fun _ _ e => e.elim)⟩
theorem Tv.went (h : Tv A w0 w P en gs ws st gr at_ v ks R G O n wk ra rst) (g : Went P en gs v w w') : ∃ ws' st' gr' at' v' ks', Tv A w0 w' P en gs ws' st' gr' at' v' ks' R G O n wk ra rst ∧ Fr (Ck.S P v) w w' := by
  obtain ⟨ws', st', gr', at', v', ks', k, i, f, s⟩ := g
  refine ⟨ws', st', gr', at', v', ks', ⟨k, i, h.r.fr f (fun b e e2 => h.dis b e2 e), fun b e e2 => ?_, fun b e a => ?_, h.lr, h.al, h.bel.trans f (fun b _ e => h.lk b e)⟩, f⟩
  · rcases s b e with e | e
    · exact h.dis b e e2
    · have := h.r.lt b e2; omega
  · rcases s b e with e | e
    · exact h.lk b e a
    · have := h.al b a; have := h.bel.size; omega
theorem Tv.rent (h : Tv A w0 w P en gs ws st gr at_ v ks R G O n wk ra rst) (g : Rent R en gs G O w w') : ∃ G' O' n' wk' ra' rst', Tv A w0 w' P en gs ws st gr at_ v ks R G' O' n' wk' ra' rst' ∧ Fr (Rk.S R G O) w w' := by
  obtain ⟨G', O', n', wk', ra', rst', k, f, s⟩ := g
  refine ⟨G', O', n', wk', ra', rst', ⟨h.k.fr f (fun b e e2 => h.dis b e e2), h.i, k, fun b e e2 => ?_, h.lk, fun b e a => ?_, h.al, h.bel.trans f (fun b _ e => h.lr b e)⟩, f⟩
  · rcases s b e2 with e2 | e2
    · exact h.dis b e e2
    · have := h.k.lt b e; omega
  · rcases s b e with e | e
    · exact h.lr b e a
    · have := h.al b a; have := h.bel.size; omega
def DvR (A : Nat → Prop) (w0 : World) (P en gs R : Nat) (r : Ending) (w' : World) : Prop := (∃ b, r = .returned (.bool b)) ∧ TvE A w0 w' P en gs R
set_option maxHeartbeats 8000000 in
theorem doev_0 (h1 : 1 ≤ en) (g a b : Int) (h : Tv A w0 w P en gs ws st gr at_ v ks R G O n wk ra rst) : Calls Try.prog 20 #[.pointer (some ⟨P, 0, none⟩), .pointer (some ⟨R, 0, none⟩), .agg #[.int .i64 0, .int .i64 g, .int .i64 a, .int .i64 b]] w (DvR A w0 P en gs R) := by
  have X0 := hide (bx_new 0 g a b w)
  have L1 := hide h.k.lt
  have L2 := hide h.r.lt
  have H1 := hide (h.next ((Below.refl _ _).alloc (Nat.le_refl _) (.cells #[.int .i64 0, .int .i64 g, .int .i64 a, .int .i64 b] 58)))
  clear h
  go_enter Try.func20, Try.ntmps20
  go_wp2_with fail
  refine (begin_any g _ H1.out.k H1.out.i).mono ?_
  rintro r w2 ⟨⟨n1, e1, rfl⟩, went⟩
  obtain ⟨ws2, st2, gr2, at2, v2, ks2, h2, f2⟩ := H1.out.went went
  have X2 := hide (bx_fr X0.out f2 (fun e => by have := L1.out _ e; omega))
  obtain ⟨z, z0, z1, z2, z3⟩ := X2.out
  have H2 := hide h2
  clear went h2 f2 X0 H1
  go_wp2_with fail
  refine (rbegin_any g _ H2.out.r).mono ?_
  rintro r w3 ⟨⟨n2, e2, rfl⟩, rent⟩
  obtain ⟨G3, O3, n3, wk3, ra3, rst3, h3, f3⟩ := H2.out.rent rent
  have H3 := hide h3
  clear rent h3 f3 z0 z1 z2 z3
  go_wp2
  all_goals
    go_ret
    exact ⟨⟨_, rfl⟩, _, _, _, _, _, _, _, _, _, _, _, _, H3.out⟩
end
end Go.Proofs.Ytfikiophfphmbaa
