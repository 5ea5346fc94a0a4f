/- A nil checker. -/
import Derived.Test.YtfikiophfphmbaaF0
import Derived.WalkKit
import Derived.WalkSpells
import Derived.ProofKit
import Derived.Outline
import Derived.Handy
import Derived.RowKit3
import Derived.BigQuiet
import Derived.Deep.QuietTactic
import Derived.Deep.RegionHeld3
import Derived.Deep.Draws
import Derived.Deep.RegionLaw
import Derived.RegionTactic
import Derived.BigRegion
import Derived.IntWalk
import Derived.LoopTactic
import Derived.OwnWalk
import Derived.Laws.AppendOwn
import Derived.Laws.OwnMore
import Derived.Laws.MakeOwn
import Derived.Laws.Pointers
import Derived.Maps.AppendAt
import Derived.Deep.AppendLies
import Derived.Below
import Derived.Laws.EntriesVeiled
import Derived.LoopNIn
import Derived.LoopIn
import Derived.OwnWalkIn
import Derived.TacticsInMore
import Derived.Shelf.Abstract
namespace Go.Proofs.Ytfikiophfphmbaa
open Go.RowKit
set_option linter.unusedVariables false
set_option maxRecDepth 100000

theorem below_putObj (w : World) (D : Nat) (o : Obj) {B : Nat} (h : B ≤ D) : Below B w (w.putObj D o) := ⟨rfl, rfl, rfl, by simp, fun i hi => World.putObj_heap_other (by omega)⟩
theorem ask_nil (a b : Int) (w : World) : Calls Try.prog 22 #[.pointer none, .int .i64 a, .int .i64 b] w fun r w' => r = .returned (.tuple #[.int .i64 0, .int .i64 2]) ∧ Below w.heap.size w w' := by
  go_enter Try.func22, Try.ntmps22
  go_wp2
  go_ret2
  exact ⟨rfl, Below.refl _ _⟩
theorem begin_nil (a : Int) (w : World) : Calls Try.prog 13 #[.pointer none, .int .i64 a] w fun r w' => r = .returned (.tuple #[.int .i64 0, .int .i64 2]) ∧ Below w.heap.size w w' := by
  go_enter Try.func13, Try.ntmps13
  go_wp2
  go_ret2
  exact ⟨rfl, Below.refl _ _⟩
theorem walked_nil (a b : Int) (w : World) : Calls Try.prog 15 #[.pointer none, .int .i64 a, .int .i64 b] w fun r w' => r = .returned (.tuple #[.int .i64 0, .bool false, .int .i64 2]) ∧ Below w.heap.size w w' := by
  go_enter Try.func15, Try.ntmps15
  go_wp2
  go_ret3
  exact ⟨rfl, Below.refl _ _⟩
theorem drop_nil (a : Int) (w : World) : Calls Try.prog 12 #[.pointer none, .int .i64 a] w fun r w' => r = .returned (.tuple #[.int .i64 0, .int .i64 2]) ∧ Below w.heap.size w w' := by
  go_enter Try.func12, Try.ntmps12
  go_wp2
  go_ret2
  exact ⟨rfl, (Below.refl _ _).alloc (Nat.le_refl _) _⟩
theorem walking_nil (w : World) : Calls Try.prog 18 #[.pointer none] w fun r w' => r = .returned (.tuple #[.int .i64 0, .int .i64 0, .bool false]) ∧ Below w.heap.size w w' := by
  go_enter Try.func18, Try.ntmps18
  go_wp2
  go_ret3
  exact ⟨rfl, Below.refl _ _⟩
theorem copy_nil (w : World) : Calls Try.prog 24 #[.pointer none] w fun r w' => r = .returned (.pointer none) ∧ Below w.heap.size w w' := by
  go_enter Try.func24, Try.ntmps24
  go_wp2
  go_ret
  exact ⟨rfl, Below.refl _ _⟩
theorem all_nil (w : World) : Calls Try.prog 16 #[.pointer none] w fun r w' => r = .returned (.func (.func 38) #[] #[.pointer (some ⟨w.heap.size, 0, none⟩)]) ∧ w.heap.size < w'.heap.size ∧ w'.cell? ⟨w.heap.size, 0, none⟩ = some (.slice none 0 0) ∧ Below w.heap.size w w' := by
  go_enter Try.func16, Try.ntmps16
  go_wp2
  go_ret
  exact ⟨rfl, by simp, World.cell?_alloc_new _ _ _ 0, (Below.refl _ _).alloc (Nat.le_refl _) _⟩
def Bx (B : Nat) (q g a b : Int) (w : World) : Prop := B < w.heap.size ∧ w.cell? ⟨B, 0, none⟩ = some (.int .i64 q) ∧ w.cell? ⟨B, 1, none⟩ = some (.int .i64 g) ∧ w.cell? ⟨B, 2, none⟩ = some (.int .i64 a) ∧ w.cell? ⟨B, 3, none⟩ = some (.int .i64 b)
theorem Bx.next {B : Nat} {q g a b : Int} {w w' : World} (h : Bx B q g a b w) (k : Below w.heap.size w w') : Bx B q g a b w' := ⟨Nat.lt_of_lt_of_le h.1 k.size, cell_next k h.1 h.2.1, cell_next k h.1 h.2.2.1, cell_next k h.1 h.2.2.2.1, cell_next k h.1 h.2.2.2.2⟩
set_option maxHeartbeats 8000000 in
theorem nil_law (q g a b : Int) (w : World) : Calls Try.prog 5 #[.agg #[.int .i64 q, .int .i64 g, .int .i64 a, .int .i64 b]] w fun r w' => r = .returned (.bool true) ∧ Below w.heap.size w w' := by
  refine (callsIn_wide (n := 3)).1 ?_
  refine callsIn_of_wp_marks Try.func5 rfl trivial ?_ rfl
  simp only [Try.ntmps5, List.size_toArray, List.length_cons, List.length_nil, Nat.reduceAdd, Nat.reduceSub, Array.replicate_succ, Array.replicate_zero, List.push_toArray, List.append_toArray, List.nil_append, List.cons_append]
  refine wpIn_wide.2 ?_
  have X0 : Hid (Bx w.heap.size q g a b (w.alloc (.cells #[.int .i64 q, .int .i64 g, .int .i64 a, .int .i64 b] 58))) := hide ⟨by simp, World.cell?_alloc_new w _ 58 0, World.cell?_alloc_new w _ 58 1, World.cell?_alloc_new w _ 58 2, World.cell?_alloc_new w _ 58 3⟩
  have B0 : Hid (Below w.heap.size w (w.alloc (.cells #[.int .i64 q, .int .i64 g, .int .i64 a, .int .i64 b] 58))) := hide ((Below.refl _ _).alloc (Nat.le_refl _) _)
  go_wp2_with fail
  refine (ask_nil a g _).mono ?_
  rintro r w1 ⟨rfl, b1⟩
  have X1 := hide (X0.out.next b1)
  have B1 := hide (below_step B0.out B0.out.size b1)
  obtain ⟨z, z0, z1, z2, z3⟩ := X1.out
  clear b1 X0 B0
  go_wp2_with fail
  refine (begin_nil g _).mono ?_
  rintro r w2 ⟨rfl, b2⟩
  have X2 := hide (X1.out.next b2)
  have B2 := hide (below_step B1.out B1.out.size b2)
  obtain ⟨z, z0, z1, z2, z3⟩ := X2.out
  clear b2 X1 B1
  go_wp2_with fail
  refine (walked_nil a b _).mono ?_
  rintro r w3 ⟨rfl, b3⟩
  have X3 := hide (X2.out.next b3)
  have B3 := hide (below_step B2.out B2.out.size b3)
  obtain ⟨z, z0, z1, z2, z3⟩ := X3.out
  clear b3 X2 B2
  go_wp2_with fail
  refine (drop_nil g _).mono ?_
  rintro r w4 ⟨rfl, b4⟩
  have X4 := hide (X3.out.next b4)
  have B4 := hide (below_step B3.out B3.out.size b4)
  obtain ⟨z, z0, z1, z2, z3⟩ := X4.out
  clear b4 X3 B3
  go_wp2_with fail
  refine (walking_nil _).mono ?_
  rintro r w5 ⟨rfl, b5⟩
  have z5 := hide (cell_next b5 (p := w4.heap.size) (o := 0) (by simp) (World.cell?_alloc_new w4 _ 3 0))
  have z6 := hide (Nat.lt_of_lt_of_le (by simp) b5.size : w4.heap.size < w5.heap.size)
  have B5 := hide (below_step B4.out B4.out.size (below_alloc b5))
  have B40 := hide B4.out.size
  clear b5 X4 B4 z z0 z1 z2 z3
  go_wp2_with fail
  refine (all_nil _).mono ?_
  rintro r w6 ⟨rfl, l6, y6, b6⟩
  have B6 := hide (below_step B5.out B5.out.size b6)
  have Y6 := hide y6
  have z7 := hide (cell_next b6 z6.out z5.out)
  clear b6 B5 y6 z5
  have E1 : ∀ W, (binOp BinOp.eql 43 (.func (.func 38) #[] #[.pointer (some ⟨w5.heap.size, 0, none⟩)]) .nilFunc).run Try.prog W = .ok (.bool false) W := fun W => by kernel_rfl
  go_wp2_with fail
  refine (wpIn_wide (n := 3)).1 ?_
  refine rf_none rfl l6 Y6.out ?_
  intro D W hD hbW hK
  have zW := cell_next hbW (Nat.lt_trans z6.out l6) z7.out
  have BW := hide (below_step B6.out B6.out.size hbW)
  have HK := hide hK
  clear hbW hK
  go_wp2_with fail
  refine (copy_nil _).mono ?_
  rintro r w7 ⟨rfl, hb⟩
  have B7 := hide (below_step BW.out BW.out.size hb)
  have K7 := hide ((hb.block D (Array.getElem?_eq_some_iff.1 HK.out).1).trans HK.out)
  clear hb
  go_wp2_with fail
  refine (awake_ok _).mono ?_
  rintro r w8 ⟨rfl, hb⟩
  have B8 := hide (below_step B7.out B7.out.size hb)
  have K8 := (hb.block D (Array.getElem?_eq_some_iff.1 K7.out).1).trans K7.out
  clear hb
  go_wp2
  refine ⟨by simp, .inl ⟨_, _, rfl, run_takeDeferred K8, ?_⟩⟩
  exact ⟨.bool true, by simp [results, Try.f5, go_sem], rfl, B8.out.trans (below_putObj _ D _ (Nat.le_trans B6.out.size hD))⟩
end Go.Proofs.Ytfikiophfphmbaa
