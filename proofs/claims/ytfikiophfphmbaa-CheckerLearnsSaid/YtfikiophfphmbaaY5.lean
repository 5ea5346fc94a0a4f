/- does, beside what is not its own: Walked, Drop. -/
import Derived.Test.YtfikiophfphmbaaY4
import Derived.WalkKit
import Derived.WalkSpells
import Derived.ProofKit
import Derived.Outline
import Derived.Handy
import Derived.RowKit3
import Derived.BigQuiet
import Derived.Deep.QuietTactic
import Derived.Deep.RegionHeld3
import Derived.Deep.Draws
import Derived.Deep.RegionLaw
import Derived.RegionTactic
import Derived.BigRegion
import Derived.IntWalk
import Derived.LoopTactic
import Derived.OwnWalk
import Derived.Laws.AppendOwn
import Derived.Laws.OwnMore
import Derived.Laws.MakeOwn
import Derived.Laws.Pointers
import Derived.Maps.AppendAt
import Derived.Deep.AppendLies
import Derived.Below
namespace Go.Proofs.Ytfikiophfphmbaa
open Go.RowKit
set_option linter.unusedVariables false
set_option maxRecDepth 100000

section
variable {A : Nat → Prop} {w0 w w' : World} {P en gs R n : Nat} {ws st rst : Bool} {gr at_ wk ra : Int} {v G O : Value} {ks : List (Int × Int)}
set_option maxHeartbeats 8000000 in
theorem doev_1 (h1 : 1 ≤ en) (g a b : Int) (h : Tv A w0 w P en gs ws st gr at_ v ks R G O n wk ra rst) : Calls Try.prog 20 #[.pointer (some ⟨P, 0, none⟩), .pointer (some ⟨R, 0, none⟩), .agg #[.int .i64 1, .int .i64 g, .int .i64 a, .int .i64 b]] w (DvR A w0 P en gs R) := by
  have X0 := hide (bx_new 1 g a b w)
  have L1 := hide h.k.lt
  have L2 := hide h.r.lt
  have H1 := hide (h.next ((Below.refl _ _).alloc (Nat.le_refl _) (.cells #[.int .i64 1, .int .i64 g, .int .i64 a, .int .i64 b] 58)))
  clear h
  go_enter Try.func20, Try.ntmps20
  go_wp2_with fail
  refine (walked_any a b h1 _ H1.out.k H1.out.i).mono ?_
  rintro r w2 ⟨⟨n1, b1, e1, rfl⟩, went⟩
  obtain ⟨ws2, st2, gr2, at2, v2, ks2, h2, f2⟩ := H1.out.went went
  have X2 := hide (bx_fr X0.out f2 (fun e => by have := L1.out _ e; omega))
  obtain ⟨z, z0, z1, z2, z3⟩ := X2.out
  have H2 := hide h2
  clear went h2 f2 X0 H1
  go_wp2_with fail
  refine (rwalked_any a b _ H2.out.r).mono ?_
  rintro r w3 ⟨⟨n2, b2, e2, rfl⟩, rent⟩
  obtain ⟨G3, O3, n3, wk3, ra3, rst3, h3, f3⟩ := H2.out.rent rent
  have H3 := hide h3
  clear rent h3 f3 z0 z1 z2 z3
  go_wp2
  all_goals
    go_ret
    exact ⟨⟨_, rfl⟩, _, _, _, _, _, _, _, _, _, _, _, _, H3.out⟩
set_option maxHeartbeats 8000000 in
theorem doev_3 (h1 : 1 ≤ en) (g a b : Int) (h : Tv A w0 w P en gs ws st gr at_ v ks R G O n wk ra rst) : Calls Try.prog 20 #[.pointer (some ⟨P, 0, none⟩), .pointer (some ⟨R, 0, none⟩), .agg #[.int .i64 3, .int .i64 g, .int .i64 a, .int .i64 b]] w (DvR A w0 P en gs R) := by
  have X0 := hide (bx_new 3 g a b w)
  have L1 := hide h.k.lt
  have L2 := hide h.r.lt
  have H1 := hide (h.next ((Below.refl _ _).alloc (Nat.le_refl _) (.cells #[.int .i64 3, .int .i64 g, .int .i64 a, .int .i64 b] 58)))
  clear h
  have c5 := H1.out.r.c5
  have hR := H1.out.r.hR
  have hR0 : R < w.heap.size := L2.out R (.inl rfl)
  go_enter Try.func20, Try.ntmps20
  go_wp2_with fail
  refine (walked_any ra b h1 _ H1.out.k H1.out.i).mono ?_
  rintro r w2 ⟨⟨n1, b1, e1, rfl⟩, went⟩
  obtain ⟨ws2, st2, gr2, at2, v2, ks2, h2, f2⟩ := H1.out.went went
  have X2 := hide (bx_fr X0.out f2 (fun e => by have := L1.out _ e; omega))
  obtain ⟨z, z0, z1, z2, z3⟩ := X2.out
  have H2 := hide h2
  clear went h2 f2 X0 H1 c5 hR
  go_wp2_with fail
  refine (rwalked_any ra b _ H2.out.r).mono ?_
  rintro r w3 ⟨⟨n2, b2, e2, rfl⟩, rent⟩
  obtain ⟨G3, O3, n3, wk3, ra3, rst3, h3, f3⟩ := H2.out.rent rent
  have H3 := hide h3
  clear rent h3 f3 z0 z1 z2 z3
  go_wp2
  all_goals
    go_ret
    exact ⟨⟨_, rfl⟩, _, _, _, _, _, _, _, _, _, _, _, _, H3.out⟩
set_option maxHeartbeats 8000000 in
theorem doev_2 (h1 : 1 ≤ en) (g a b : Int) (h : Tv A w0 w P en gs ws st gr at_ v ks R G O n wk ra rst) : Calls Try.prog 20 #[.pointer (some ⟨P, 0, none⟩), .pointer (some ⟨R, 0, none⟩), .agg #[.int .i64 2, .int .i64 g, .int .i64 a, .int .i64 b]] w (DvR A w0 P en gs R) := by
  have X0 := hide (bx_new 2 g a b w)
  have L1 := hide h.k.lt
  have L2 := hide h.r.lt
  have H1 := hide (h.next ((Below.refl _ _).alloc (Nat.le_refl _) (.cells #[.int .i64 2, .int .i64 g, .int .i64 a, .int .i64 b] 58)))
  clear h
  go_enter Try.func20, Try.ntmps20
  go_wp2_with fail
  refine (drop_int g _ H1.out.k H1.out.i).mono ?_
  rintro r w2 ⟨⟨n1, e1, rfl⟩, went⟩
  obtain ⟨ws2, st2, gr2, at2, v2, ks2, h2, f2⟩ := H1.out.went went
  have X2 := hide (bx_fr X0.out f2 (fun e => by have := L1.out _ e; omega))
  obtain ⟨z, z0, z1, z2, z3⟩ := X2.out
  have H2 := hide h2
  clear went h2 f2 X0 H1
  go_wp2_with fail
  refine (rdrop_any g _ H2.out.r).mono ?_
  rintro r w3 ⟨⟨n2, e2, rfl⟩, rent⟩
  obtain ⟨G3, O3, n3, wk3, ra3, rst3, h3, f3⟩ := H2.out.rent rent
  have H3 := hide h3
  clear rent h3 f3 z0 z1 z2 z3
  go_wp2
  all_goals
    go_ret
    exact ⟨⟨_, rfl⟩, _, _, _, _, _, _, _, _, _, _, _, _, H3.out⟩
end
end Go.Proofs.Ytfikiophfphmbaa
