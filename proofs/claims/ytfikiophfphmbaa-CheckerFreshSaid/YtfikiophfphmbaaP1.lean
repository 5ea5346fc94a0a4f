/- Any call of Walked and Begin. -/
import Derived.Test.YtfikiophfphmbaaN9
import Derived.Test.YtfikiophfphmbaaN3
import Derived.Test.YtfikiophfphmbaaN4
import Derived.Test.YtfikiophfphmbaaN5
import Derived.Test.YtfikiophfphmbaaC4
import Derived.Test.YtfikiophfphmbaaN1
import Derived.WalkKit
import Derived.WalkSpells
import Derived.ProofKit
import Derived.Outline
import Derived.Handy
import Derived.RowKit3
import Derived.BigQuiet
import Derived.Deep.QuietTactic
import Derived.Deep.RegionHeld3
import Derived.Deep.Draws
import Derived.Deep.RegionLaw
import Derived.RegionTactic
import Derived.BigRegion
import Derived.IntWalk
import Derived.LoopTactic
import Derived.OwnWalk
import Derived.Laws.AppendOwn
import Derived.Laws.OwnMore
import Derived.Laws.MakeOwn
import Derived.Laws.Pointers
import Derived.Maps.AppendAt
import Derived.Deep.AppendLies
import Derived.Below
namespace Go.Proofs.Ytfikiophfphmbaa
open Go.RowKit
set_option linter.unusedVariables false
set_option maxRecDepth 100000

/-- What holds of a checker ahead of each call: a walk is for a granule in range that is not known; granules are known once; owners are owners. -/
structure Inv (gs : Nat) (ws : Bool) (gr : Int) (ks : List (Int × Int)) : Prop where
  w : ws = true → ∃ g : Nat, gr = (g : Int) ∧ g < gs ∧ ∀ x ∈ ks, x.1 ≠ (g : Int)
  p : ks.Pairwise (fun x y => x.1 ≠ y.1)
  r : ∀ x ∈ ks, (0 ≤ x.1 ∧ x.1 < gs) ∧ 0 ≤ x.2 ∧ x.2 ≤ 4
theorem Inv.app {gs g : Nat} {ks : List (Int × Int)} {ws : Bool} {gr o : Int} (h : Inv gs ws gr ks) (hg : g < gs) (hn : ∀ x ∈ ks, x.1 ≠ (g : Int)) (ho : 0 ≤ o ∧ o ≤ 4) (gr' : Int) : Inv gs false gr' (ks ++ [((g : Int), o)]) := by
  refine ⟨fun e => (by cases e), ?_, ?_⟩
  · rw [List.pairwise_append]
    refine ⟨h.p, List.pairwise_singleton _ _, fun x hx y hy => ?_⟩
    simp at hy
    subst hy
    exact hn x hx
  · intro x hx
    rcases List.mem_append.1 hx with hx | hx
    · exact h.r x hx
    · simp at hx
      subst hx
      exact ⟨⟨by omega, by omega⟩, ho⟩
theorem Inv.tail {gs : Nat} {ks : List (Int × Int)} {ws : Bool} {gr : Int} {x : Int × Int} (h : Inv gs ws gr (x :: ks)) : Inv gs ws gr ks :=
  ⟨fun e => by obtain ⟨g, h1, h2, h3⟩ := h.w e; exact ⟨g, h1, h2, fun y hy => h3 y (List.mem_cons_of_mem _ hy)⟩, (List.pairwise_cons.1 h.p).2, fun y hy => h.r y (List.mem_cons_of_mem _ hy)⟩
/-- What a call leaves. -/
def Went (P en gs : Nat) (v : Value) (w w' : World) : Prop := ∃ ws st gr at_ v' ks, Ck w' P ws st gr at_ en gs v' ks ∧ Inv gs ws gr ks ∧ Fr (Ck.S P v) w w' ∧ ∀ k, Ck.S P v' k → Ck.S P v k ∨ w.heap.size ≤ k
section
variable {P en gs : Nat} {ws st : Bool} {gr at_ : Int} {v : Value} {ks : List (Int × Int)}
theorem went_same {w w' : World} (h : Ck w P ws st gr at_ en gs v ks) (i : Inv gs ws gr ks) (b : Below w.heap.size w w') : Went P en gs v w w' := ⟨ws, st, gr, at_, v, ks, h.next b, i, Fr.of_below b, fun _ e => .inl e⟩
theorem walked_any (a word : Int) (h1 : 1 ≤ en) (w : World) (h : Ck w P ws st gr at_ en gs v ks) (i : Inv gs ws gr ks) : Calls Try.prog 15 #[.pointer (some ⟨P, 0, none⟩), .int .i64 a, .int .i64 word] w fun r w' => (∃ n b e, r = .returned (.tuple #[.int .i64 n, .bool b, .int .i64 e])) ∧ Went P en gs v w w' := by
  cases ws
  · exact (walked_state a word w h).mono fun r w' ⟨e, b⟩ => ⟨⟨_, _, _, e⟩, went_same h i b⟩
  · by_cases ha : a = at_
    · subst ha
      obtain ⟨g, rfl, hg, hn⟩ := i.w rfl
      have hg16 : g < 16 := by have := h.g16; omega
      cases st
      · obtain ⟨nx, o, lk, ov, e, hc, hcase⟩ := next_any gs g a word h.g1 h.g16 hg
        rcases hcase with ⟨he, rfl, rfl, rfl, rfl⟩ | ⟨rfl, rfl, rfl, rfl⟩ | ⟨rfl, rfl, ho⟩
        · rcases he with rfl | rfl
          · exact (walked_err14 word hc w h).mono fun r w' ⟨e, k, f⟩ => ⟨⟨_, _, _, e⟩, _, _, _, _, _, _, k, i, f.mono (fun _ _ e => .inl e), fun _ e => .inl e⟩
          · exact (walked_err10 word hc w h).mono fun r w' ⟨e, k, f⟩ => ⟨⟨_, _, _, e⟩, _, _, _, _, _, _, k, i, f.mono (fun _ _ e => .inl e), fun _ e => .inl e⟩
        · exact (walked_next nx word hc w h).mono fun r w' ⟨e, k, f⟩ => ⟨⟨_, _, _, e⟩, _, _, _, _, _, _, k, i, f.mono (fun _ _ e => .inl e), fun _ e => .inl e⟩
        · cases lk
          · by_cases hlt : ks.length < en
            · exact (walked_done nx o word hc hlt w h).mono fun r w' ⟨e, v', k, f, s⟩ => ⟨⟨_, _, _, e⟩, _, _, _, _, _, _, k, i.app hg hn ho _, f, s⟩
            · cases ks with
              | nil => simp at hlt; omega
              | cons x ks =>
                have hle := h.le
                have hl : ks.length + 1 = en := by simp at hlt hle; omega
                exact (walked_full nx o word x hc hl w h).mono fun r w' ⟨e, v', k, f, s⟩ => ⟨⟨_, _, _, e⟩, _, _, _, _, _, _, k, i.tail.app hg (fun y hy => hn y (List.mem_cons_of_mem _ hy)) ho _, f, s⟩
          · exact (walked_lock nx o word g rfl hg16 hc w h).mono fun r w' ⟨e, k, f⟩ => ⟨⟨_, _, _, e⟩, _, _, _, _, _, _, k, i, f.mono (fun _ _ e => .inl e), fun _ e => .inl e⟩
      · exact (walked_stale word g rfl hg16 w h).mono fun r w' ⟨e, k, f⟩ => ⟨⟨_, _, _, e⟩, _, _, _, _, _, _, k, i, f.mono (fun _ _ e => .inl e), fun _ e => .inl e⟩
    · exact (walked_arg a word ha w h).mono fun r w' ⟨e, b⟩ => ⟨⟨_, _, _, e⟩, went_same h i b⟩
theorem known_or (ks : List (Int × Int)) (g : Int) : (∀ x ∈ ks, x.1 ≠ g) ∨ ∃ (i : Nat) (o : Int), ks[i]? = some (g, o) ∧ ∀ j x, j < i → ks[j]? = some x → x.1 ≠ g := by
  induction ks with
  | nil => exact .inl (by simp)
  | cons y ks ih =>
    by_cases hy : y.1 = g
    · exact .inr ⟨0, y.2, by simp [← hy], fun j x hj => absurd hj (Nat.not_lt_zero _)⟩
    · rcases ih with h | ⟨i, o, h1, h2⟩
      · refine .inl (fun x hx => ?_)
        rcases List.mem_cons.1 hx with rfl | hx
        · exact hy
        · exact h x hx
      · refine .inr ⟨i + 1, o, by simpa using h1, fun j x hj hx => ?_⟩
        cases j with
        | zero => simp at hx; subst hx; exact hy
        | succ j => exact h2 j x (by omega) (by simpa using hx)
theorem begin_any (g : Int) (w : World) (h : Ck w P ws st gr at_ en gs v ks) (i : Inv gs ws gr ks) : Calls Try.prog 13 #[.pointer (some ⟨P, 0, none⟩), .int .i64 g] w fun r w' => (∃ n e, r = .returned (.tuple #[.int .i64 n, .int .i64 e])) ∧ Went P en gs v w w' := by
  by_cases hg : 0 ≤ g ∧ g < gs
  · rcases known_or ks g with hn | ⟨j, o, h1, h2⟩
    · cases ws
      · obtain ⟨n, rfl⟩ : ∃ n : Nat, g = n := ⟨g.toNat, by omega⟩
        exact (begin_yes n (by omega) hn w h).mono fun r w' ⟨e, k, f⟩ => ⟨⟨_, _, e⟩, _, _, _, _, _, _, k, ⟨fun _ => ⟨n, rfl, by omega, hn⟩, i.p, i.r⟩, f.mono (fun _ _ e => .inl e), fun _ e => .inl e⟩
      · exact (begin_walks g hg hn w h).mono fun r w' ⟨e, b⟩ => ⟨⟨_, _, e⟩, went_same h i b⟩
    · exact (begin_there g o j hg h1 h2 w h).mono fun r w' ⟨e, b⟩ => ⟨⟨_, _, e⟩, went_same h i b⟩
  · exact (begin_range g hg w h).mono fun r w' ⟨e, b⟩ => ⟨⟨_, _, e⟩, went_same h i b⟩
end
end Go.Proofs.Ytfikiophfphmbaa
