/- does, beside what is not its own. -/
import Derived.Test.YtfikiophfphmbaaY5
import Derived.WalkKit
import Derived.WalkSpells
import Derived.ProofKit
import Derived.Outline
import Derived.Handy
import Derived.RowKit3
import Derived.BigQuiet
import Derived.Deep.QuietTactic
import Derived.Deep.RegionHeld3
import Derived.Deep.Draws
import Derived.Deep.RegionLaw
import Derived.RegionTactic
import Derived.BigRegion
import Derived.IntWalk
import Derived.LoopTactic
import Derived.OwnWalk
import Derived.Laws.AppendOwn
import Derived.Laws.OwnMore
import Derived.Laws.MakeOwn
import Derived.Laws.Pointers
import Derived.Maps.AppendAt
import Derived.Deep.AppendLies
import Derived.Below
namespace Go.Proofs.Ytfikiophfphmbaa
open Go.RowKit
set_option linter.unusedVariables false
set_option maxRecDepth 100000

section
variable {A : Nat → Prop} {w0 w w' : World} {P en gs R n : Nat} {ws st rst : Bool} {gr at_ wk ra : Int} {v G O : Value} {ks : List (Int × Int)}
set_option maxHeartbeats 8000000 in
theorem askv_o1 (h1 : 1 ≤ en) (q g a b : Int) (hq : q ≠ 0 ∧ q ≠ 1 ∧ q ≠ 2 ∧ q ≠ 3) (hg : g < 0) (h : Tv A w0 w P en gs ws st gr at_ v ks R G O n wk ra rst) : Calls Try.prog 20 #[.pointer (some ⟨P, 0, none⟩), .pointer (some ⟨R, 0, none⟩), .agg #[.int .i64 q, .int .i64 g, .int .i64 a, .int .i64 b]] w (DvR A w0 P en gs R) := by
  have X0 := hide (bx_new q g a b w)
  have L1 := hide h.k.lt
  have L2 := hide h.r.lt
  have H1 := hide (h.next ((Below.refl _ _).alloc (Nat.le_refl _) (.cells #[.int .i64 q, .int .i64 g, .int .i64 a, .int .i64 b] 58)))
  clear h
  have n0 : (q == 0) = false := beq_eq_false_iff_ne.2 hq.1
  have n1 : (q == 1) = false := beq_eq_false_iff_ne.2 hq.2.1
  have n2 : (q == 2) = false := beq_eq_false_iff_ne.2 hq.2.2.1
  have n3 : (q == 3) = false := beq_eq_false_iff_ne.2 hq.2.2.2
  clear hq
  have d1 : decide (g < 0) = true := by simpa using hg
  go_enter Try.func20, Try.ntmps20
  go_wp2_with fail
  refine (ask_any a g _ H1.out.k H1.out.i).mono ?_
  rintro r w2 ⟨⟨m1, e1, rfl⟩, hb⟩
  have X2 := hide (X0.out.next hb)
  obtain ⟨z, z0, z1, z2, z3⟩ := X2.out
  have H2 := hide (H1.out.next hb)
  have c1 := H2.out.r.c1
  clear hb X0 H1
  go_wp2_with (go_quiet (fail))
  all_goals
    go_ret
    exact ⟨⟨_, rfl⟩, _, _, _, _, _, _, _, _, _, _, _, _, H2.out.next (below_drewN (Below.refl _ _) _)⟩
set_option maxHeartbeats 8000000 in
theorem askv_o2 (h1 : 1 ≤ en) (q g a b : Int) (hq : q ≠ 0 ∧ q ≠ 1 ∧ q ≠ 2 ∧ q ≠ 3) (hg0 : 0 ≤ g) (hg : (gs : Int) ≤ g) (h : Tv A w0 w P en gs ws st gr at_ v ks R G O n wk ra rst) : Calls Try.prog 20 #[.pointer (some ⟨P, 0, none⟩), .pointer (some ⟨R, 0, none⟩), .agg #[.int .i64 q, .int .i64 g, .int .i64 a, .int .i64 b]] w (DvR A w0 P en gs R) := by
  have X0 := hide (bx_new q g a b w)
  have L1 := hide h.k.lt
  have L2 := hide h.r.lt
  have H1 := hide (h.next ((Below.refl _ _).alloc (Nat.le_refl _) (.cells #[.int .i64 q, .int .i64 g, .int .i64 a, .int .i64 b] 58)))
  clear h
  have n0 : (q == 0) = false := beq_eq_false_iff_ne.2 hq.1
  have n1 : (q == 1) = false := beq_eq_false_iff_ne.2 hq.2.1
  have n2 : (q == 2) = false := beq_eq_false_iff_ne.2 hq.2.2.1
  have n3 : (q == 3) = false := beq_eq_false_iff_ne.2 hq.2.2.2
  clear hq
  have d1 : decide (g < 0) = false := by simpa using hg0
  have d2 : decide ((gs : Int) ≤ g) = true := by simpa using hg
  go_enter Try.func20, Try.ntmps20
  go_wp2_with fail
  refine (ask_any a g _ H1.out.k H1.out.i).mono ?_
  rintro r w2 ⟨⟨m1, e1, rfl⟩, hb⟩
  have X2 := hide (X0.out.next hb)
  obtain ⟨z, z0, z1, z2, z3⟩ := X2.out
  have H2 := hide (H1.out.next hb)
  have c1 := H2.out.r.c1
  clear hb X0 H1
  go_wp2_with (go_quiet (fail))
  all_goals
    go_ret
    exact ⟨⟨_, rfl⟩, _, _, _, _, _, _, _, _, _, _, _, _, H2.out.next (below_drewN (Below.refl _ _) _)⟩
set_option maxHeartbeats 8000000 in
theorem askv_o3 (h1 : 1 ≤ en) (q g a b : Int) (hq : q ≠ 0 ∧ q ≠ 1 ∧ q ≠ 2 ∧ q ≠ 3) (hg0 : 0 ≤ g) (hg : g < gs) (ha : a < 0) (h : Tv A w0 w P en gs ws st gr at_ v ks R G O n wk ra rst) : Calls Try.prog 20 #[.pointer (some ⟨P, 0, none⟩), .pointer (some ⟨R, 0, none⟩), .agg #[.int .i64 q, .int .i64 g, .int .i64 a, .int .i64 b]] w (DvR A w0 P en gs R) := by
  have X0 := hide (bx_new q g a b w)
  have L1 := hide h.k.lt
  have L2 := hide h.r.lt
  have H1 := hide (h.next ((Below.refl _ _).alloc (Nat.le_refl _) (.cells #[.int .i64 q, .int .i64 g, .int .i64 a, .int .i64 b] 58)))
  clear h
  have n0 : (q == 0) = false := beq_eq_false_iff_ne.2 hq.1
  have n1 : (q == 1) = false := beq_eq_false_iff_ne.2 hq.2.1
  have n2 : (q == 2) = false := beq_eq_false_iff_ne.2 hq.2.2.1
  have n3 : (q == 3) = false := beq_eq_false_iff_ne.2 hq.2.2.2
  clear hq
  have d1 : decide (g < 0) = false := by simpa using hg0
  have d2 : decide ((gs : Int) ≤ g) = false := by simpa using hg
  have d3 : decide (a < 0) = true := by simpa using ha
  go_enter Try.func20, Try.ntmps20
  go_wp2_with fail
  refine (ask_any a g _ H1.out.k H1.out.i).mono ?_
  rintro r w2 ⟨⟨m1, e1, rfl⟩, hb⟩
  have X2 := hide (X0.out.next hb)
  obtain ⟨z, z0, z1, z2, z3⟩ := X2.out
  have H2 := hide (H1.out.next hb)
  have c1 := H2.out.r.c1
  clear hb X0 H1
  go_wp2_with (go_quiet (fail))
  all_goals
    go_ret
    exact ⟨⟨_, rfl⟩, _, _, _, _, _, _, _, _, _, _, _, _, H2.out.next (below_drewN (Below.refl _ _) _)⟩
set_option maxHeartbeats 8000000 in
theorem askv_o4 (h1 : 1 ≤ en) (q g a b : Int) (hq : q ≠ 0 ∧ q ≠ 1 ∧ q ≠ 2 ∧ q ≠ 3) (hg0 : 0 ≤ g) (hg : g < gs) (ha0 : 0 ≤ a) (ha : 3 < a) (h : Tv A w0 w P en gs ws st gr at_ v ks R G O n wk ra rst) : Calls Try.prog 20 #[.pointer (some ⟨P, 0, none⟩), .pointer (some ⟨R, 0, none⟩), .agg #[.int .i64 q, .int .i64 g, .int .i64 a, .int .i64 b]] w (DvR A w0 P en gs R) := by
  have X0 := hide (bx_new q g a b w)
  have L1 := hide h.k.lt
  have L2 := hide h.r.lt
  have H1 := hide (h.next ((Below.refl _ _).alloc (Nat.le_refl _) (.cells #[.int .i64 q, .int .i64 g, .int .i64 a, .int .i64 b] 58)))
  clear h
  have n0 : (q == 0) = false := beq_eq_false_iff_ne.2 hq.1
  have n1 : (q == 1) = false := beq_eq_false_iff_ne.2 hq.2.1
  have n2 : (q == 2) = false := beq_eq_false_iff_ne.2 hq.2.2.1
  have n3 : (q == 3) = false := beq_eq_false_iff_ne.2 hq.2.2.2
  clear hq
  have d1 : decide (g < 0) = false := by simpa using hg0
  have d2 : decide ((gs : Int) ≤ g) = false := by simpa using hg
  have d3 : decide (a < 0) = false := by simpa using ha0
  have d4 : decide (3 < a) = true := by simpa using ha
  go_enter Try.func20, Try.ntmps20
  go_wp2_with fail
  refine (ask_any a g _ H1.out.k H1.out.i).mono ?_
  rintro r w2 ⟨⟨m1, e1, rfl⟩, hb⟩
  have X2 := hide (X0.out.next hb)
  obtain ⟨z, z0, z1, z2, z3⟩ := X2.out
  have H2 := hide (H1.out.next hb)
  have c1 := H2.out.r.c1
  clear hb X0 H1
  go_wp2_with (go_quiet (fail))
  all_goals
    go_ret
    exact ⟨⟨_, rfl⟩, _, _, _, _, _, _, _, _, _, _, _, _, H2.out.next (below_drewN (Below.refl _ _) _)⟩
set_option maxHeartbeats 8000000 in
theorem askv_in (h1 : 1 ≤ en) (q g a b : Int) (hq : q ≠ 0 ∧ q ≠ 1 ∧ q ≠ 2 ∧ q ≠ 3) (hg0 : 0 ≤ g) (hg : g < gs) (ha0 : 0 ≤ a) (ha : a ≤ 3) (h : Tv A w0 w P en gs ws st gr at_ v ks R G O n wk ra rst) : Calls Try.prog 20 #[.pointer (some ⟨P, 0, none⟩), .pointer (some ⟨R, 0, none⟩), .agg #[.int .i64 q, .int .i64 g, .int .i64 a, .int .i64 b]] w (DvR A w0 P en gs R) := by
  have X0 := hide (bx_new q g a b w)
  have L1 := hide h.k.lt
  have L2 := hide h.r.lt
  have H1 := hide (h.next ((Below.refl _ _).alloc (Nat.le_refl _) (.cells #[.int .i64 q, .int .i64 g, .int .i64 a, .int .i64 b] 58)))
  clear h
  have n0 : (q == 0) = false := beq_eq_false_iff_ne.2 hq.1
  have n1 : (q == 1) = false := beq_eq_false_iff_ne.2 hq.2.1
  have n2 : (q == 2) = false := beq_eq_false_iff_ne.2 hq.2.2.1
  have n3 : (q == 3) = false := beq_eq_false_iff_ne.2 hq.2.2.2
  clear hq
  have d1 : decide (g < 0) = false := by simpa using hg0
  have d2 : decide ((gs : Int) ≤ g) = false := by simpa using hg
  have d3 : decide (a < 0) = false := by simpa using ha0
  have d4 : decide (3 < a) = false := by simpa using ha
  go_enter Try.func20, Try.ntmps20
  go_wp2_with fail
  refine (ask_any a g _ H1.out.k H1.out.i).mono ?_
  rintro r w2 ⟨⟨m1, e1, rfl⟩, hb⟩
  have X2 := hide (X0.out.next hb)
  obtain ⟨z, z0, z1, z2, z3⟩ := X2.out
  have H2 := hide (H1.out.next hb)
  have c1 := H2.out.r.c1
  clear hb X0 H1
  go_wp2_with (go_quiet (fail))
  refine (rask_any a g _ (H2.out.r.next (below_drewN (Below.refl _ _) nq))).mono ?_
  rintro r w3 ⟨⟨m2, rfl⟩, hb⟩
  have H3 := hide ((H2.out.next (below_drewN (Below.refl _ _) nq)).next hb)
  clear hb z0 z1 z2 z3 c1
  go_wp2
  all_goals
    go_ret
    exact ⟨⟨_, rfl⟩, _, _, _, _, _, _, _, _, _, _, _, _, H3.out⟩
theorem doev_any (h1 : 1 ≤ en) (q g a b : Int) (h : Tv A w0 w P en gs ws st gr at_ v ks R G O n wk ra rst) : Calls Try.prog 20 #[.pointer (some ⟨P, 0, none⟩), .pointer (some ⟨R, 0, none⟩), .agg #[.int .i64 q, .int .i64 g, .int .i64 a, .int .i64 b]] w (DvR A w0 P en gs R) := by
  by_cases q0 : q = 0
  · subst q0; exact doev_0 h1 g a b h
  by_cases q1 : q = 1
  · subst q1; exact doev_1 h1 g a b h
  by_cases q2 : q = 2
  · subst q2; exact doev_2 h1 g a b h
  by_cases q3 : q = 3
  · subst q3; exact doev_3 h1 g a b h
  have hq := And.intro q0 (And.intro q1 (And.intro q2 q3))
  by_cases g0 : g < 0
  · exact askv_o1 h1 q g a b hq g0 h
  by_cases g1 : (gs : Int) ≤ g
  · exact askv_o2 h1 q g a b hq (by omega) g1 h
  by_cases a0 : a < 0
  · exact askv_o3 h1 q g a b hq (by omega) (by omega) a0 h
  by_cases a1 : 3 < a
  · exact askv_o4 h1 q g a b hq (by omega) (by omega) (by omega) a1 h
  exact askv_in h1 q g a b hq (by omega) (by omega) (by omega) (by omega) h
end
end Go.Proofs.Ytfikiophfphmbaa
