/- Walked and Begin, fresh. -/
import Derived.Test.YtfikiophfphmbaaR2
import Derived.Test.YtfikiophfphmbaaN5
import Derived.Test.YtfikiophfphmbaaN4
import Derived.Test.YtfikiophfphmbaaN3
import Derived.WalkKit
import Derived.WalkSpells
import Derived.ProofKit
import Derived.Outline
import Derived.Handy
import Derived.RowKit3
import Derived.BigQuiet
import Derived.Deep.QuietTactic
import Derived.Deep.RegionHeld3
import Derived.Deep.Draws
import Derived.Deep.RegionLaw
import Derived.RegionTactic
import Derived.BigRegion
import Derived.IntWalk
import Derived.LoopTactic
import Derived.OwnWalk
import Derived.Laws.AppendOwn
import Derived.Laws.OwnMore
import Derived.Laws.MakeOwn
import Derived.Laws.Pointers
import Derived.Maps.AppendAt
import Derived.Deep.AppendLies
import Derived.Below
namespace Go.Proofs.Ytfikiophfphmbaa
open Go.RowKit
set_option linter.unusedVariables false
set_option maxRecDepth 100000

section
variable {P en gs mn : Nat} {ws st rd : Bool} {gr at_ wd : Int} {v : Value} {ks : List (Int × Int)} {o : Nat → Int} {l : Nat → Bool}
def WkX (P en gs mn : Nat) (o : Nat → Int) (l : Nat → Bool) (v : Value) (w : World) (r : Ending) (w' : World) : Prop := ∃ (nx : Int) (ov : Bool), r = .returned (.tuple #[.int .i64 nx, .bool ov, .int .i64 0]) ∧ ∃ ws' st' gr' at' v' ks', Ck w' P ws' st' gr' at' en gs v' ks' ∧ ws' = !ov ∧ (ws' = true → at' = nx) ∧ (∀ wd', Fi mn gs o l ws' st' gr' at' ks' false wd') ∧ Fr (Ck.S P v) w w' ∧ ∀ b, Ck.S P v' b → Ck.S P v b ∨ w.heap.size ≤ b
theorem Fi.learned {g : Nat} {j : Nat} {ks' : List (Int × Int)} (h : Fi mn gs o l ws st gr at_ ks rd wd) (hg : g < gs) (hl : l g = false) (hno : ∀ x ∈ ks, x.1 ≠ (g : Int)) (s : ∃ k0, ks' = k0 ++ [((g : Int), o g)] ∧ k0.Sublist ks) (wd' : Int) : Fi mn gs o l false false 0 0 ks' false wd' := by
  obtain ⟨k0, rfl, hs⟩ := s
  refine ⟨h.ob, ?_, fun x hx => ?_, fun e => by cases e⟩
  · rw [List.pairwise_append]
    refine ⟨h.pw.sublist hs, List.pairwise_singleton _ _, fun x hx y hy => ?_⟩
    simp at hy
    subst hy
    exact hno x (hs.mem hx)
  · rcases List.mem_append.1 hx with hx | hx
    · exact h.fr x (hs.mem hx)
    · simp at hx
      subst hx
      exact ⟨g, rfl, hg, rfl, hl⟩
theorem Fi.asks {g : Nat} {at' : Int} (h : Fi mn gs o l ws st gr at_ ks rd wd) (hg : g < gs) (hno : ∀ x ∈ ks, x.1 ≠ (g : Int)) (ha : at' = ((g / 4 : Nat) : Int) ∨ at' = (mn : Int) + g) (st' : Bool) (wd' : Int) : Fi mn gs o l true st' g at' ks false wd' :=
  ⟨h.ob, h.pw, h.fr, fun _ => ⟨g, rfl, hg, hno, ha, fun e => by cases e⟩⟩
theorem learn_x (g : Nat) (word : Int) (he1 : 1 ≤ en) (hN : ∀ W, Calls Try.prog 35 #[.int .i64 gs, .int .i64 g, .int .i64 at_, .int .i64 word] W fun r w' => r = .returned (.tuple #[.int .i64 0, .agg #[.int .i64 (o g), .bool false], .bool true, .int .i64 0]) ∧ Below W.heap.size W w') (hg : g < gs) (hl : l g = false) (hno : ∀ x ∈ ks, x.1 ≠ (g : Int)) (w : World) (h : Ck w P true false g at_ en gs v ks) (i : Fi mn gs o l true false g at_ ks rd wd) :
    Calls Try.prog 15 #[.pointer (some ⟨P, 0, none⟩), .int .i64 at_, .int .i64 word] w (WkX P en gs mn o l v w) := by
  by_cases hroom : ks.length < en
  · exact (walked_done 0 (o g) word hN hroom w h).mono fun r w' ⟨e, v', k, f, s⟩ => ⟨_, _, e, _, _, _, _, _, _, k, rfl, (fun e => by cases e), fun wd' => i.learned (j := 0) hg hl hno ⟨_, rfl, List.Sublist.refl _⟩ wd', f, s⟩
  · cases ks with
    | nil => simp at hroom; omega
    | cons x ks =>
      have hle := h.le
      have hll : ks.length + 1 = en := by simp at hroom hle; omega
      exact (walked_full 0 (o g) word x hN hll w h).mono fun r w' ⟨e, v', k, f, s⟩ => ⟨_, _, e, _, _, _, _, _, _, k, rfl, (fun e => by cases e), fun wd' => i.learned (j := 0) hg hl hno ⟨_, rfl, List.sublist_cons_self _ _⟩ wd', f, s⟩
theorem walked_x (he1 : 1 ≤ en) (hg1 : 1 ≤ gs) (hg16 : gs ≤ 16) (hm : (gs + 3) / 4 = mn) (w : World) (h : Ck w P true st gr at_ en gs v ks) (i : Fi mn gs o l true st gr at_ ks true wd) : Calls Try.prog 15 #[.pointer (some ⟨P, 0, none⟩), .int .i64 at_, .int .i64 wd] w (WkX P en gs mn o l v w) := by
  obtain ⟨g, rfl, hg, hno, hat, hgood⟩ := i.wk rfl
  have hg16' : g < 16 := by omega
  cases st
  · have hob := i.ob g
    rcases hgood rfl rfl with ⟨rfl, ⟨rfl, hl⟩ | rfl⟩ | ⟨rfl, rfl⟩
    · exact learn_x g _ he1 (fun W => next_plain gs g (g / 4) mn (o g) hob.1 hob.2 hg1 hg16 hg rfl hm W) hg hl hno w h i
    · exact (walked_next ((mn : Int) + g) _ (fun W => next_part gs g (g / 4) mn hg1 hg16 hg rfl hm W) w h).mono fun r w' ⟨e, k, f⟩ => ⟨_, _, e, _, _, _, _, _, _, k, rfl, (fun _ => rfl), fun wd' => i.asks hg hno (.inr rfl) false wd', f.mono (fun _ _ e => .inl e), fun _ e => .inl e⟩
    · cases hl : l g
      · exact learn_x g (o g) he1 (fun W => next_own gs g (g / 4) mn (o g) hob.1 hob.2 hg1 hg16 hg rfl hm W) hg hl hno w h i
      · exact (walked_lock 0 (o g) (o g + 8) g rfl hg16' (fun W => next_lock gs g (g / 4) mn (o g) hob.1 hob.2 hg1 hg16 hg rfl hm W) w h).mono fun r w' ⟨e, k, f⟩ => ⟨_, _, e, _, _, _, _, _, _, k, rfl, (fun _ => rfl), fun wd' => i.asks hg hno (.inl rfl) false wd', f.mono (fun _ _ e => .inl e), fun _ e => .inl e⟩
  · exact (walked_stale wd g rfl hg16' w h).mono fun r w' ⟨e, k, f⟩ => ⟨_, _, e, _, _, _, _, _, _, k, rfl, (fun _ => rfl), fun wd' => i.asks hg hno (.inl rfl) false wd', f.mono (fun _ _ e => .inl e), fun _ e => .inl e⟩
def BgX (P en gs mn : Nat) (o : Nat → Int) (l : Nat → Bool) (v : Value) (ks : List (Int × Int)) (w : World) (r : Ending) (w' : World) : Prop := ∃ (n e : Int), r = .returned (.tuple #[.int .i64 n, .int .i64 e]) ∧ ((e = 0 ∧ ∃ gr', Ck w' P true false gr' n en gs v ks ∧ (∀ wd', Fi mn gs o l true false gr' n ks false wd') ∧ Fr (fun k => k = P) w w') ∨ ((e == 0) = false ∧ Below w.heap.size w w'))
theorem begin_x (g : Int) (w : World) (h : Ck w P ws st gr at_ en gs v ks) (i : Fi mn gs o l ws st gr at_ ks rd wd) : Calls Try.prog 13 #[.pointer (some ⟨P, 0, none⟩), .int .i64 g] w (BgX P en gs mn o l v ks w) := by
  by_cases hg : 0 ≤ g ∧ g < gs
  · rcases known_or ks g with hn | ⟨j, ow, h1, h2⟩
    · cases ws
      · obtain ⟨n, rfl⟩ : ∃ n : Nat, g = n := ⟨g.toNat, by omega⟩
        exact (begin_yes n (by omega) hn w h).mono fun r w' ⟨e, k, f⟩ => ⟨_, _, e, .inl ⟨rfl, _, k, fun wd' => i.asks (by omega) hn (.inl rfl) false wd', f⟩⟩
      · exact (begin_walks g hg hn w h).mono fun r w' ⟨e, b⟩ => ⟨_, _, e, .inr ⟨by decide, b⟩⟩
    · exact (begin_there g ow j hg h1 h2 w h).mono fun r w' ⟨e, b⟩ => ⟨_, _, e, .inr ⟨by decide, b⟩⟩
  · exact (begin_range g hg w h).mono fun r w' ⟨e, b⟩ => ⟨_, _, e, .inr ⟨by decide, b⟩⟩
end
end Go.Proofs.Ytfikiophfphmbaa
