/- Any Drop of one granule. -/
import Derived.Test.YtfikiophfphmbaaP1
import Derived.Test.YtfikiophfphmbaaQ1
import Derived.Test.YtfikiophfphmbaaD2
import Derived.Test.YtfikiophfphmbaaD3
import Derived.Test.YtfikiophfphmbaaD4
import Derived.Test.YtfikiophfphmbaaD5
import Derived.Test.YtfikiophfphmbaaD6
import Derived.WalkKit
import Derived.WalkSpells
import Derived.ProofKit
import Derived.Outline
import Derived.Handy
import Derived.RowKit3
import Derived.BigQuiet
import Derived.Deep.QuietTactic
import Derived.Deep.RegionHeld3
import Derived.Deep.Draws
import Derived.Deep.RegionLaw
import Derived.RegionTactic
import Derived.BigRegion
import Derived.IntWalk
import Derived.LoopTactic
import Derived.OwnWalk
import Derived.Laws.AppendOwn
import Derived.Laws.OwnMore
import Derived.Laws.MakeOwn
import Derived.Laws.Pointers
import Derived.Maps.AppendAt
import Derived.Deep.AppendLies
import Derived.Below
namespace Go.Proofs.Ytfikiophfphmbaa
open Go.RowKit
set_option linter.unusedVariables false
set_option maxRecDepth 100000

theorem Inv.erase {gs : Nat} {ks : List (Int × Int)} {ws : Bool} {gr : Int} (h : Inv gs ws gr ks) (i : Nat) : Inv gs ws gr (ks.eraseIdx i) :=
  ⟨fun e => by obtain ⟨g, h1, h2, h3⟩ := h.w e; exact ⟨g, h1, h2, fun y hy => h3 y (List.mem_of_mem_eraseIdx hy)⟩, h.p.sublist (List.eraseIdx_sublist _ _), fun y hy => h.r y (List.mem_of_mem_eraseIdx hy)⟩
theorem Inv.later {gs : Nat} {ks : List (Int × Int)} {ws : Bool} {gr g o : Int} {i : Nat} (h : Inv gs ws gr ks) (hi : ks[i]? = some (g, o)) : ∀ j x, i < j → ks[j]? = some x → x.1 ≠ g := by
  intro j x hj hx
  obtain ⟨l1, e1⟩ := List.getElem?_eq_some_iff.1 hi
  obtain ⟨l2, e2⟩ := List.getElem?_eq_some_iff.1 hx
  have := List.pairwise_iff_getElem.1 h.p i j l1 l2 hj
  rw [e1, e2] at this
  exact fun e => this e.symm
section
variable {P en gs : Nat} {ws st : Bool} {gr at_ : Int} {v : Value} {ks : List (Int × Int)}
theorem drop_any (g : Int) (hm : g ≠ -1) (w : World) (h : Ck w P ws st gr at_ en gs v ks) (i : Inv gs ws gr ks) : Calls Try.prog 12 #[.pointer (some ⟨P, 0, none⟩), .int .i64 g] w fun r w' => (∃ n e, r = .returned (.tuple #[.int .i64 n, .int .i64 e])) ∧ Went P en gs v w w' := by
  by_cases hg : 0 ≤ g ∧ g < gs
  · obtain ⟨n, rfl⟩ : ∃ n : Nat, g = n := ⟨g.toNat, by omega⟩
    have hn : n < gs := by omega
    rcases known_or ks (n : Int) with hno | ⟨j, o, h1, h2⟩
    · cases ws
      · exact (drop_still w n hn hno h).mono fun r w' ⟨e, k, f⟩ => ⟨⟨_, _, e⟩, _, _, _, _, _, _, k, i, f.mono (fun _ _ e => .inl e), fun _ e => .inl e⟩
      · by_cases hgr : gr = (n : Int)
        · subst hgr
          exact (drop_walk w n hn hno h).mono fun r w' ⟨e, k, f⟩ => ⟨⟨_, _, e⟩, _, _, _, _, _, _, k, i, f.mono (fun _ _ e => .inl e), fun _ e => .inl e⟩
        · exact (drop_other w n hgr hn hno h).mono fun r w' ⟨e, k, f⟩ => ⟨⟨_, _, e⟩, _, _, _, _, _, _, k, i, f.mono (fun _ _ e => .inl e), fun _ e => .inl e⟩
    · have h3 := i.later h1
      cases ws
      · exact (drop_still_yes w n hn j o h1 h2 h3 h).mono fun r w' ⟨e, v', k, f, s⟩ => ⟨⟨_, _, e⟩, _, _, _, _, _, _, k, i.erase j, f, fun b hb => .inl (hb.imp id (fun q => by rw [← s]; exact q))⟩
      · have hgr : gr ≠ (n : Int) := by
          intro e
          obtain ⟨g', e1, e2, e3⟩ := i.w rfl
          exact e3 _ (List.mem_of_getElem? h1) (e.symm.trans e1)
        exact (drop_other_yes w n hgr hn j o h1 h2 h3 h).mono fun r w' ⟨e, v', k, f, s⟩ => ⟨⟨_, _, e⟩, _, _, _, _, _, _, k, i.erase j, f, fun b hb => .inl (hb.imp id (fun q => by rw [← s]; exact q))⟩
  · exact (drop_range g hg hm w h).mono fun r w' ⟨e, b⟩ => ⟨⟨_, _, e⟩, went_same h i b⟩
end
end Go.Proofs.Ytfikiophfphmbaa
