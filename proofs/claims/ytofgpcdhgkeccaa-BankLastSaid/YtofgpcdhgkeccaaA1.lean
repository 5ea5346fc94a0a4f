/- awake, few, walked. -/
import Derived.Test.YtofgpcdhgkeccaaY3
import Derived.WalkKit
import Derived.WalkSpells
import Derived.ProofKit
import Derived.Outline
import Derived.Handy
import Derived.RowKit3
import Derived.BigQuiet
import Derived.Deep.QuietTactic
import Derived.Deep.RegionHeld3
import Derived.Deep.Draws
import Derived.Deep.RegionLaw
import Derived.RegionTactic
import Derived.BigRegion
import Derived.IntWalk
import Derived.LoopTactic
import Derived.OwnWalk
import Derived.Laws.AppendOwn
import Derived.Laws.OwnMore
import Derived.Laws.MakeOwn
import Derived.Laws.Pointers
import Derived.Maps.AppendAt
import Derived.Deep.AppendLies
import Derived.Below
namespace Go.Proofs.Ytofgpcdhgkeccaa
open Go.RowKit
set_option linter.unusedVariables false
set_option maxRecDepth 100000


theorem read_z {q : Cfg} {M K : Nat} {L : Nat → Nat} {φ : Nat → Int} (z : Int) (i : Nat) (hz : z = (i : Int)) (hi : i < q.n) (w : World) (hT : Mem w q M K L φ) :
    Calls Try.prog 21 #[.pointer (some ⟨M, 0, none⟩), .int .i64 z] w fun r w' => r = .returned (.tuple #[.agg #[.int .i64 (φ (i * 2)), .int .i64 (φ (i * 2 + 1))], .int .i64 0]) ∧ Mem w' q M K L φ ∧ Fr (fun k => k = K) w w' := by
  subst hz; exact read_in i hi w hT
theorem get_z {q : Cfg} {M K : Nat} {L : Nat → Nat} {φ : Nat → Int} (z : Int) (i : Nat) (hz : z = (i : Int)) (hi : i < q.n * 2) (w : World) (hT : Mem w q M K L φ) :
    Calls Try.prog 19 #[.pointer (some ⟨M, 0, none⟩), .int .i64 z] w fun r w' => r = .returned (.tuple #[.int .i64 (φ i), .int .i64 0]) ∧ Below w.heap.size w w' := by
  subst hz; exact get_in i hi w hT
theorem scrub_z {q : Cfg} {M K : Nat} {L : Nat → Nat} {φ : Nat → Int} (z : Int) (x : Nat) (hz : z = (x : Int)) (hx : x * 2 < q.n) (w : World) (hT : Mem w q M K L φ) :
    Calls Try.prog 23 #[.pointer (some ⟨M, 0, none⟩), .int .i64 z] w fun r w' => r = .returned (.int .i64 0) ∧ Mem w' q M K L (scr φ x) ∧ Fr (Mem.S q M K L) w w' := by
  subst hz; exact scrub_in x hx w hT
def q0 : Cfg := cfgOf 1 2 1 1 1 1 2 (by unfold Ok; omega)
set_option maxHeartbeats 2000000 in
theorem awake_ok (w : World) : Calls Try.prog 8 #[] w fun r w' => r = .returned (.bool true) ∧ Below w.heap.size w w' := by
  have hn : q0.n = 4 := rfl
  go_enter Try.func8, Try.ntmps8
  go_wp2_with fail
  refine (new_yes q0 _).mono ?_
  rintro r w1 ⟨M, K, L, rfl, h1, hS, hb1⟩
  have HS := hide hS
  have H1 := hide h1
  have hMw := hS M (.inl rfl)
  clear h1 hS
  go_wp2_with fail
  refine (write_z 3 3 rfl (by omega) 5 6 _ H1.out).mono ?_
  rintro r w2 ⟨rfl, h2, f2⟩
  have H2 := hide h2
  have B2 := hide (hb1.trans (f2.below hb1.size (fun i hi hs => by have := HS.out i hs; omega)))
  clear h2 f2 hb1
  go_wp2_with fail
  refine (get_z 7 7 rfl (by omega) _ H2.out).mono ?_
  rintro r w3 ⟨rfl, hb3⟩
  have H3 := hide (H2.out.next hb3)
  have B3 := hide (below_step B2.out B2.out.size hb3)
  clear hb3
  go_wp2_with fail
  refine (scrub_z 1 1 rfl (by omega) _ H3.out).mono ?_
  rintro r w4 ⟨rfl, h4, f4⟩
  have H4 := hide h4
  have B4 := hide (B3.out.trans (f4.below B3.out.size (fun i hi hs => by have := HS.out i hs; omega)))
  clear h4 f4
  go_wp2_with fail
  refine (read_z 3 3 rfl (by omega) _ H4.out).mono ?_
  rintro r w5 ⟨rfl, h5, f5⟩
  have e0 : scr (upd (upd (fun _ => 0) (3 * 2) 5) (3 * 2 + 1) 6) 1 (3 * 2) = 0 := rfl
  have e1 : scr (upd (upd (fun _ => 0) (3 * 2) 5) (3 * 2 + 1) 6) 1 (3 * 2 + 1) = 0 := rfl
  have e2 : upd (upd (fun _ => 0) (3 * 2) 5) (3 * 2 + 1) 6 7 = (6 : Int) := rfl
  have B5 := hide (B4.out.trans (f5.below B4.out.size (fun i hi hs => by subst hs; have := HS.out _ (.inr (.inl rfl)); omega)))
  have qq := fun W => arr_eql 0 0 0 0 W
  simp only [beq_self_eq_true, Bool.and_self] at qq
  clear h5 f5
  rw [e0, e1, e2]
  clear e0 e1 e2
  go_wp2
  go_ret
  exact ⟨rfl, B5.out.alloc B5.out.size _⟩
theorem few_any (av : Option Addr) (L c : Nat) (hL : L ≤ maxLen) (w : World) : Calls Try.prog 7 #[.slice av L c] w fun r w' => r = .returned (.bool (decide (L ≤ 60))) ∧ w = w' := by
  unfold maxLen at hL
  go_enter Try.func7, Try.ntmps7
  go_wp2
  go_ret
  exact ⟨ret_bool (by simp; omega), rfl⟩
theorem few_v (av : Option Addr) (L c : Nat) (hL : L ≤ maxLen) (v : Bool) (hv : decide (L ≤ 60) = v) (w : World) : Calls Try.prog 7 #[.slice av L c] w fun r w' => r = .returned (.bool v) ∧ w = w' := by
  subst hv; exact few_any av L c hL w
end Go.Proofs.Ytofgpcdhgkeccaa
