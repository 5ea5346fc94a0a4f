/- The reference of layer 9 (checker): place, Ask, Begin. -/
import Derived.Test.YtfikiophfphmbaaV1
import Derived.WalkKit
import Derived.WalkSpells
import Derived.ProofKit
import Derived.Outline
import Derived.Handy
import Derived.RowKit3
import Derived.BigQuiet
import Derived.Deep.QuietTactic
import Derived.Deep.RegionHeld3
import Derived.Deep.Draws
import Derived.Deep.RegionLaw
import Derived.RegionTactic
import Derived.BigRegion
import Derived.IntWalk
import Derived.LoopTactic
import Derived.OwnWalk
import Derived.Laws.AppendOwn
import Derived.Laws.OwnMore
import Derived.Laws.MakeOwn
import Derived.Laws.Pointers
import Derived.Maps.AppendAt
import Derived.Deep.AppendLies
import Derived.Below
namespace Go.Proofs.Ytfikiophfphmbaa
open Go.RowKit
set_option linter.unusedVariables false
set_option maxRecDepth 100000

def PlR (n : Nat) (w : World) (r : Ending) (w' : World) : Prop := ∃ i : Int, r = .returned (.int .i64 i) ∧ (i = -1 ∨ ∃ k : Nat, i = k ∧ k < n) ∧ Below w.heap.size w w'
def IntR (w : World) (r : Ending) (w' : World) : Prop := (∃ i : Int, r = .returned (.int .i64 i)) ∧ Below w.heap.size w w'
section
variable {R en gs n : Nat} {G O : Value} {wk at_ : Int} {st : Bool}
set_option maxHeartbeats 2000000 in
theorem place_any (g : Int) (w : World) (h : Rk w R en gs G O n wk at_ st) : Calls Try.prog 49 #[.pointer (some ⟨R, 0, none⟩), .int .i64 g] w (PlR n w) := by
  have c2 := h.c2
  have hn := h.le
  have he := h.e8
  rcases h.g with ⟨rfl, rfl⟩ | ⟨b, off, cap, rfl, h1, h2, h3, h4, -, -⟩
  · clear h
    go_enter Try.func49, Try.ntmps49
    go_wp2
    go_loop [5] (fun v5 => v5 = .int .i64 0) (fun _ => 0)
    case atStart => exact rfl
    case round =>
      subst hrel
      go_wp2
      go_ret
      exact ⟨-1, rfl, .inl rfl, Below.refl _ _⟩
  · have H4 := hide h4
    clear h h4
    go_enter Try.func49, Try.ntmps49
    go_wp2
    go_loop [5] (fun v5 => ∃ k : Nat, k ≤ n ∧ v5 = .int .i64 k) (fun v5 => n - (intOf v5).toNat)
    case atStart => exact ⟨0, Nat.zero_le _, rfl⟩
    case round =>
      obtain ⟨k, hk, rfl⟩ := hrel
      by_cases hlt : k < n
      · obtain ⟨x, hx⟩ := H4.out k hlt
        by_cases hxg : x = g
        · subst hxg
          go_wp2
          go_ret
          exact ⟨k, rfl, .inr ⟨k, rfl, hlt⟩, Below.refl _ _⟩
        · have e : (x == g) = false := beq_eq_false_iff_ne.2 hxg
          clear hxg
          go_wp2
          go_round
          case rel => exact ⟨k + 1, by omega, by go_num⟩
          case measure => simp [intOf]; omega
      · go_wp2
        go_ret
        exact ⟨-1, rfl, .inl rfl, Below.refl _ _⟩
set_option maxHeartbeats 2000000 in
theorem rask_any (wd g : Int) (w : World) (h : Rk w R en gs G O n wk at_ st) : Calls Try.prog 42 #[.pointer (some ⟨R, 0, none⟩), .int .i64 wd, .int .i64 g] w (IntR w) := by
  have H := hide h
  clear h
  go_enter Try.func42, Try.ntmps42
  go_wp2_with fail
  refine (place_any g _ H.out).mono ?_
  rintro r w1 ⟨i, rfl, hi, hb⟩
  have HB := hide hb
  have H1 := hide (H.out.next hb)
  clear hb
  rcases hi with rfl | ⟨k, rfl, hk⟩
  · go_wp2
    go_ret
    exact ⟨⟨_, rfl⟩, HB.out⟩
  · have c3 := H1.out.c3
    have hn := H1.out.le
    have he := H1.out.e8
    rcases H1.out.o with ⟨rfl, rfl⟩ | ⟨b, off, cap, rfl, h1, h2, h3, h4, -, -⟩
    · omega
    · obtain ⟨x, hx⟩ := h4 k hk
      clear h4
      by_cases e1 : wd = 0
      · subst e1
        go_wp2
        go_ret
        exact ⟨⟨_, rfl⟩, HB.out⟩
      · have f1 : (wd == 0) = false := beq_eq_false_iff_ne.2 e1
        by_cases e2 : x = wd
        · subst e2
          go_wp2
          go_ret
          exact ⟨⟨_, rfl⟩, HB.out⟩
        · have f2 : (x == wd) = false := beq_eq_false_iff_ne.2 e2
          by_cases e3 : x = 4
          · subst e3
            go_wp2
            go_ret
            exact ⟨⟨_, rfl⟩, HB.out⟩
          · have f3 : (x == 4) = false := beq_eq_false_iff_ne.2 e3
            go_wp2
            go_ret
            exact ⟨⟨_, rfl⟩, HB.out⟩
def BegR (R en gs : Nat) (G O : Value) (w : World) (r : Ending) (w' : World) : Prop := (∃ n e, r = .returned (.tuple #[.int .i64 n, .int .i64 e])) ∧ Rent R en gs G O w w'
set_option maxHeartbeats 2000000 in
theorem rbegin_any (g : Int) (w : World) (h : Rk w R en gs G O n wk at_ st) : Calls Try.prog 39 #[.pointer (some ⟨R, 0, none⟩), .int .i64 g] w (BegR R en gs G O w) := by
  have c1 := h.c1
  have H := hide h
  clear h
  by_cases hg : 0 ≤ g ∧ g < gs
  · obtain ⟨k, rfl⟩ : ∃ k : Nat, g = k := ⟨g.toNat, by omega⟩
    have hg2 : k < gs := by omega
    clear hg
    go_enter Try.func39, Try.ntmps39
    go_wp2_with fail
    refine (place_any (k : Int) _ H.out).mono ?_
    rintro r w1 ⟨i, rfl, hi, hb⟩
    have HB := hide hb
    have H1 := hide (H.out.next hb)
    clear hb c1
    rcases hi with rfl | ⟨i, rfl, hk⟩
    · have c4 := H1.out.c4
      have c5 := H1.out.c5
      have c6 := H1.out.c6
      have f4 := H1.out.f 4 (by omega)
      have f5 := H1.out.f 5 (by omega)
      have f6 := H1.out.f 6 (by omega)
      by_cases hw : 0 ≤ wk
      · go_wp2
        go_ret2
        exact ⟨⟨_, _, rfl⟩, rent_same H.out HB.out⟩
      · go_wp2
        go_ret2
        exact ⟨⟨_, _, rfl⟩, rent_r (((H1.out.setWk _ (by have := H1.out.g16; omega)).setAt _).setSt _) ((((Fr.of_below HB.out).trans (rk_fr _ R 4 _) (fun _ _ e => e)).trans (rk_fr _ R 5 _) (fun _ _ e => e)).trans (rk_fr _ R 6 _) (fun _ _ e => e))⟩
    · go_wp2
      go_ret2
      exact ⟨⟨_, _, rfl⟩, rent_same H.out HB.out⟩
  · by_cases h1 : g < 0
    · go_enter Try.func39, Try.ntmps39
      go_wp2
      go_ret2
      exact ⟨⟨_, _, rfl⟩, rent_same H.out (Below.refl _ _)⟩
    · have h2 : ¬ g < gs := by omega
      have h0 : 0 ≤ g := by omega
      clear hg
      go_enter Try.func39, Try.ntmps39
      go_wp2
      go_ret2
      exact ⟨⟨_, _, rfl⟩, rent_same H.out (Below.refl _ _)⟩
end
end Go.Proofs.Ytfikiophfphmbaa
