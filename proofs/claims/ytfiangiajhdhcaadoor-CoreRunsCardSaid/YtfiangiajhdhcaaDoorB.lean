/- is, may, numbers. -/
import Derived.Test.YtfiangiajhdhcaaDoorK
import Derived.WalkKit
import Derived.WalkSpells
import Derived.ProofKit
import Derived.Outline
import Derived.Handy
import Derived.RowKit3
import Derived.BigQuiet
import Derived.Deep.QuietTactic
import Derived.Deep.RegionHeld3
import Derived.Deep.Draws
import Derived.Deep.RegionLaw
import Derived.RegionTactic
import Derived.BigRegion
import Derived.IntWalk
import Derived.LoopTactic
import Derived.OwnWalk
import Derived.Laws.AppendOwn
import Derived.Laws.OwnMore
import Derived.Laws.MakeOwn
import Derived.Laws.Pointers
import Derived.Maps.AppendAt
import Derived.Deep.AppendLies
import Derived.Below
import Derived.RangeFuncNested
import Derived.RangeFuncBound
import Derived.RangeFuncCalls
import Derived.RangeFuncLeaves
import Derived.Shelf.Abstract
import Derived.LoopNIn
import Derived.LoopIn
import Derived.OwnWalkIn
import Derived.TacticsInMore
import Derived.Shelf.RegionOpen
namespace Go.Proofs.YtfiangiajhdhcaaDoor
open Go.Shelf Go.RowKit
set_option linter.unusedVariables false
set_option maxRecDepth 100000

/-- The values of a number's kind that may be, in a program of so many. -/
def okn (k : Nat) (v m : Int) : Bool := if k = 1 then decide (0 ≤ v ∧ v < 4) else if k = 2 then true else if k = 3 then decide (0 < v ∧ v ≤ 3) else if k = 4 then decide (1 ≤ v ∧ v ≤ 4) else if k = 5 then decide (0 ≤ v ∧ v ≤ m) else decide (v = 0)
theorem is_f (o : Int) (v : Bool) (hv : decide (1 ≤ o ∧ o ≤ 11) = v) (w : World) : Calls Tryd.prog 48 #[.int .i64 o] w fun r w' => r = .returned (.bool v) ∧ w = w' := by
  subst hv
  by_cases h1 : 1 ≤ o <;> by_cases h2 : o ≤ 11
  all_goals
    go_enter Tryd.func48, Tryd.ntmps48
    go_wp2
    go_ret
    exact ⟨ret_bool (by simp [h1, h2]), rfl⟩
theorem may0 (v m : Int) (b : Bool) (hb : okn 0 v m = b) (w : World) : Calls Tryd.prog 50 #[.int .i64 0, .int .i64 v, .int .i64 m] w fun r w' => r = .returned (.bool b) ∧ w = w' := by
  subst hb
  go_enter Tryd.func50, Tryd.ntmps50
  go_wp2
  go_ret
  exact ⟨ret_bool (by simp only [okn]; exact Bool.eq_iff_iff.2 (by simp)), rfl⟩
theorem may1 (v m : Int) (b : Bool) (hb : okn 1 v m = b) (w : World) : Calls Tryd.prog 50 #[.int .i64 1, .int .i64 v, .int .i64 m] w fun r w' => r = .returned (.bool b) ∧ w = w' := by
  subst hb
  by_cases h1 : 0 ≤ v <;> by_cases h2 : v < 4
  all_goals
    go_enter Tryd.func50, Tryd.ntmps50
    go_wp2
    go_ret
    exact ⟨ret_bool (by simp [okn, h1, h2]), rfl⟩
theorem may2 (v m : Int) (b : Bool) (hb : okn 2 v m = b) (w : World) : Calls Tryd.prog 50 #[.int .i64 2, .int .i64 v, .int .i64 m] w fun r w' => r = .returned (.bool b) ∧ w = w' := by
  subst hb
  go_enter Tryd.func50, Tryd.ntmps50
  go_wp2
  go_ret
  exact ⟨ret_bool (by simp [okn]), rfl⟩
theorem may3 (v m : Int) (b : Bool) (hb : okn 3 v m = b) (w : World) : Calls Tryd.prog 50 #[.int .i64 3, .int .i64 v, .int .i64 m] w fun r w' => r = .returned (.bool b) ∧ w = w' := by
  subst hb
  by_cases h1 : 0 < v <;> by_cases h2 : v ≤ 3
  all_goals
    go_enter Tryd.func50, Tryd.ntmps50
    go_wp2
    go_ret
    exact ⟨ret_bool (by simp [okn, h1, h2]), rfl⟩
theorem may4 (v m : Int) (b : Bool) (hb : okn 4 v m = b) (w : World) : Calls Tryd.prog 50 #[.int .i64 4, .int .i64 v, .int .i64 m] w fun r w' => r = .returned (.bool b) ∧ w = w' := by
  subst hb
  by_cases h1 : 1 ≤ v <;> by_cases h2 : v ≤ 4
  all_goals
    go_enter Tryd.func50, Tryd.ntmps50
    go_wp2
    go_ret
    exact ⟨ret_bool (by simp [okn, h1, h2]), rfl⟩
theorem may5 (v m : Int) (b : Bool) (hb : okn 5 v m = b) (w : World) : Calls Tryd.prog 50 #[.int .i64 5, .int .i64 v, .int .i64 m] w fun r w' => r = .returned (.bool b) ∧ w = w' := by
  subst hb
  by_cases h1 : 0 ≤ v <;> by_cases h2 : v ≤ m
  all_goals
    go_enter Tryd.func50, Tryd.ntmps50
    go_wp2
    go_ret
    exact ⟨ret_bool (by simp [okn, h1, h2]), rfl⟩
theorem kd_le (op i : Nat) (h : op < 12) (hi : i < 3) : kd op i ≤ 5 := by
  have e : op = 0 ∨ op = 1 ∨ op = 2 ∨ op = 3 ∨ op = 4 ∨ op = 5 ∨ op = 6 ∨ op = 7 ∨ op = 8 ∨ op = 9 ∨ op = 10 ∨ op = 11 := by omega
  have f : i = 0 ∨ i = 1 ∨ i = 2 := by omega
  rcases e with rfl | rfl | rfl | rfl | rfl | rfl | rfl | rfl | rfl | rfl | rfl | rfl <;> rcases f with rfl | rfl | rfl <;> decide
theorem may_k (k : Nat) (hk : k ≤ 5) (v m : Int) (b : Bool) (hb : okn k v m = b) (w : World) : Calls Tryd.prog 50 #[.int .i64 k, .int .i64 v, .int .i64 m] w fun r w' => r = .returned (.bool b) ∧ w = w' := by
  have e : k = 0 ∨ k = 1 ∨ k = 2 ∨ k = 3 ∨ k = 4 ∨ k = 5 := by omega
  rcases e with rfl | rfl | rfl | rfl | rfl | rfl
  · exact may0 v m b hb w
  · exact may1 v m b hb w
  · exact may2 v m b hb w
  · exact may3 v m b hb w
  · exact may4 v m b hb w
  · exact may5 v m b hb w
/-- The block that an instruction is kept in. -/
def Ins (w : World) (E : Nat) (o a b c : Int) : Prop := E < w.heap.size ∧ w.cell? ⟨E, 0, none⟩ = some (.int .i64 o) ∧ w.cell? ⟨E, 1, none⟩ = some (.int .i64 a) ∧ w.cell? ⟨E, 2, none⟩ = some (.int .i64 b) ∧ w.cell? ⟨E, 3, none⟩ = some (.int .i64 c)
theorem Ins.fr {S : Nat → Prop} {w w' : World} {E : Nat} {o a b c : Int} (h : Ins w E o a b c) (f : Fr S w w') (hS : ¬ S E) : Ins w' E o a b c :=
  ⟨Nat.lt_of_lt_of_le h.1 f.size, (f.cell h.1 hS).trans h.2.1, (f.cell h.1 hS).trans h.2.2.1, (f.cell h.1 hS).trans h.2.2.2.1, (f.cell h.1 hS).trans h.2.2.2.2⟩
theorem num_f (o a b c : Int) (w : World) : Calls Tryd.prog 49 #[.agg #[.int .i64 o, .int .i64 a, .int .i64 b, .int .i64 c]] w fun r w' => r = .returned (.func (.func 82) #[] #[.pointer (some ⟨w.heap.size, 0, none⟩)]) ∧ Ins w' w.heap.size o a b c ∧ Below w.heap.size w w' := by
  go_enter Tryd.func49, Tryd.ntmps49
  go_wp2
  go_ret
  exact ⟨rfl, ⟨by simp, World.cell?_alloc_new w _ 23 0, World.cell?_alloc_new w _ 23 1, World.cell?_alloc_new w _ 23 2, World.cell?_alloc_new w _ 23 3⟩, (Below.refl _ _).alloc (Nat.le_refl _) _⟩
/-- The numbers of an instruction, by their places. -/
def nv (a b c : Int) (i : Nat) : Int := if i = 0 then a else if i = 1 then b else c
/-- Cells that lay there lie there still, but for those of S. -/
def Fc (S : Nat → Prop) (A B : World) : Prop := A.heap.size ≤ B.heap.size ∧ ∀ k o, ¬ S k → A.heap[k]? = some o → o.isCells = true → B.heap[k]? = some o
theorem Fc.refl (S : Nat → Prop) (A : World) : Fc S A A := ⟨Nat.le_refl _, fun _ _ _ h _ => h⟩
theorem Fc.trans {S : Nat → Prop} {A B C : World} (h : Fc S A B) (k : Fc S B C) : Fc S A C := ⟨Nat.le_trans h.1 k.1, fun i o hi ho hc => k.2 i o hi (h.2 i o hi ho hc) hc⟩
theorem Fc.of_fr {S : Nat → Prop} {A B : World} (h : Fr S A B) : Fc S A B := ⟨h.size, fun k o hk ho _ => (h.block k (Array.getElem?_eq_some_iff.1 ho).1 hk).trans ho⟩
theorem Fc.put {S : Nat → Prop} {A : World} {l : Nat} {o : Obj} (o' : Obj) (h : A.heap[l]? = some o) (hc : o.isCells = false) : Fc S A (A.putObj l o') :=
  ⟨by simp, fun k u _ hu hcu => (World.putObj_heap_other (by rintro rfl; rw [h] at hu; cases hu; rw [hc] at hcu; cases hcu)).trans hu⟩
theorem Fc.cell {S : Nat → Prop} {A B : World} (h : Fc S A B) {p o : Nat} {v : Value} (hS : ¬ S p) (hv : A.cell? ⟨p, o, none⟩ = some v) : B.cell? ⟨p, o, none⟩ = some v := by
  have hlt := World.block_lt_of_cell? A _ hv
  obtain ⟨u, hu⟩ : ∃ u, A.heap[p]? = some u := ⟨_, Array.getElem?_eq_getElem hlt⟩
  have hcu : u.isCells = true := by
    unfold World.cell? at hv
    rw [hu] at hv
    cases u <;> first | rfl | (simp at hv)
  have e : B.heap[p]? = A.heap[p]? := (h.2 p u hS hu hcu).trans hu.symm
  exact (World.cell?_of_block (a := ⟨p, o, none⟩) e).trans hv
theorem idx0 (x y z : Int) (w : World) : Sem.run Tryd.prog (Instr.index 123 (.agg #[.int .i64 x, .int .i64 y, .int .i64 z]) (.int .i64 0)) w = Result.ok (.int .i64 x) w := by kernel_rfl
theorem idx1 (x y z : Int) (w : World) : Sem.run Tryd.prog (Instr.index 123 (.agg #[.int .i64 x, .int .i64 y, .int .i64 z]) (.int .i64 1)) w = Result.ok (.int .i64 y) w := by kernel_rfl
theorem idx2 (x y z : Int) (w : World) : Sem.run Tryd.prog (Instr.index 123 (.agg #[.int .i64 x, .int .i64 y, .int .i64 z]) (.int .i64 2)) w = Result.ok (.int .i64 z) w := by kernel_rfl
theorem nums_i (S : Nat → Prop) (op : Nat) (a b c : Int) (ho : op < 12) (n : Nat) (hn : 1 ≤ n) (E : Nat) (w : World) (hS : ∀ k, S k → k < w.heap.size) (T : Tab w) (hI : Ins w E op a b c) :
    SeqStopsK Fence.wide n Tryd.prog 82 #[.pointer (some ⟨E, 0, none⟩)] (fun i : Fin 3 => #[.int .i64 (kd op i), .int .i64 (nv a b c i)]) (Fc S) (fun xs => xs = [0, 1, 2]) (fun _ => True) 3 w := fun l J Jx W hW hJ hJx hY h0 => by
  have T1 := T.next hW
  have I1 := hI.fr (S := fun _ => False) (Fr.of_below hW) (fun e => e)
  have hSW : ¬ S W.heap.size := fun h => by have := hS _ h; have := hW.size; omega
  refine callsIn_of_wp Tryd.func82 rfl trivial ?_ rfl
  simp only [Tryd.ntmps82, List.size_toArray, List.length_cons, List.length_nil, Nat.reduceAdd, Nat.reduceSub, Array.replicate_succ, Array.replicate_zero, List.push_toArray, List.append_toArray, List.nil_append, List.cons_append]
  have hEW := I1.1
  have I2 := hide (I1.fr (Fr.of_below ((Below.refl W.heap.size W).alloc (Nat.le_refl _) (.cells #[.int .i64 a, .int .i64 b, .int .i64 c] 123))) (fun e => e) (S := fun _ => False))
  have T2 := hide (T1.alloc (.cells #[.int .i64 a, .int .i64 b, .int .i64 c] 123))
  have J0 := hJ _ W (W.alloc (.cells #[.int .i64 a, .int .i64 b, .int .i64 c] 123)) none h0 (World.grownBy_alloc _ _ _) (fun r e => by cases e)
  obtain ⟨-, c0, c1, c2, c3⟩ := I1
  obtain ⟨hE2, d0, d1, d2, d3⟩ := I2.out
  have v0 := World.cell?_alloc_new W #[.int .i64 a, .int .i64 b, .int .i64 c] 123 0
  have v1 := World.cell?_alloc_new W #[.int .i64 a, .int .i64 b, .int .i64 c] 123 1
  have v2 := World.cell?_alloc_new W #[.int .i64 a, .int .i64 b, .int .i64 c] 123 2
  have k0 := T2.out.2 op 0 ho (by omega)
  have k1 := T2.out.2 op 1 ho (by omega)
  have k2 := T2.out.2 op 2 ho (by omega)
  gi_wp2
  gi_loopw [18] (fun i wr => ∃ k : Nat, k ≤ 3 ∧ i = .int .i64 k ∧ J (([0, 1, 2] : List (Fin 3)).take k) wr ∧ Fc S (W.alloc (.cells #[.int .i64 a, .int .i64 b, .int .i64 c] 123)) wr) (fun i _ => 3 - (intOf i).toNat)
  case atStart => exact ⟨0, Nat.zero_le _, rfl, J0, Fc.refl _ _⟩
  case round =>
    obtain ⟨k, hk, rfl, hJk, hFc⟩ := hrel
    have z0 := hFc.cell hSW v0
    have z1 := hFc.cell hSW v1
    have z2 := hFc.cell hSW v2
    clear c0 c1 c2 c3 d0 d1 d2 d3 k0 k1 k2 v0 v1 v2
    have hkk : k = 0 ∨ k = 1 ∨ k = 2 ∨ k = 3 := by omega
    rcases hkk with rfl | rfl | rfl | rfl
    · obtain ⟨fn, tmps, assign, body, hy, hR⟩ := hY _ 0 wr hJk (by simp)
      have hix := idx0
      have hy2 : Sem.run Tryd.prog (Instr.yield l #[.int .i64 (kd op 0), .int .i64 a]) wr = Result.ok (.round l fn tmps assign body) wr := hy
      clear hy
      gi_wp2
      refine hR.mono ?_
      rintro e W3 (⟨rfl, hJ3, hk3⟩ | ⟨rfl, hJx3⟩)
      · gi_wp2
        go_roundw
        case rel => exact ⟨1, by omega, rfl, hJ3, hFc.trans hk3⟩
        case measure => simp [intOf]
      · gi_wp2
        refine bodyPost_ret (results_none rfl _ _ _) rfl ?_
        exact ⟨⟨_, rfl⟩, .inr ⟨_, trivial, hJx3⟩⟩
    · obtain ⟨fn, tmps, assign, body, hy, hR⟩ := hY _ 1 wr hJk (by simp)
      have hix := idx1
      have hy2 : Sem.run Tryd.prog (Instr.yield l #[.int .i64 (kd op 1), .int .i64 b]) wr = Result.ok (.round l fn tmps assign body) wr := hy
      clear hy
      gi_wp2
      refine hR.mono ?_
      rintro e W3 (⟨rfl, hJ3, hk3⟩ | ⟨rfl, hJx3⟩)
      · gi_wp2
        go_roundw
        case rel => exact ⟨2, by omega, rfl, hJ3, hFc.trans hk3⟩
        case measure => simp [intOf]
      · gi_wp2
        refine bodyPost_ret (results_none rfl _ _ _) rfl ?_
        exact ⟨⟨_, rfl⟩, .inr ⟨_, trivial, hJx3⟩⟩
    · obtain ⟨fn, tmps, assign, body, hy, hR⟩ := hY _ 2 wr hJk (by simp)
      have hix := idx2
      have hy2 : Sem.run Tryd.prog (Instr.yield l #[.int .i64 (kd op 2), .int .i64 c]) wr = Result.ok (.round l fn tmps assign body) wr := hy
      clear hy
      gi_wp2
      refine hR.mono ?_
      rintro e W3 (⟨rfl, hJ3, hk3⟩ | ⟨rfl, hJx3⟩)
      · gi_wp2
        go_roundw
        case rel => exact ⟨3, by omega, rfl, hJ3, hFc.trans hk3⟩
        case measure => simp [intOf]
      · gi_wp2
        refine bodyPost_ret (results_none rfl _ _ _) rfl ?_
        exact ⟨⟨_, rfl⟩, .inr ⟨_, trivial, hJx3⟩⟩
    · gi_wp2
      go_end0
      exact ⟨⟨_, rfl⟩, .inl ⟨_, rfl, hJk⟩⟩
end Go.Proofs.YtfiangiajhdhcaaDoor
