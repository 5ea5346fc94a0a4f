/- Valid, Load, Store, Dirty, Owner, Name, Wrote, Probe, walked. -/
import Derived.Test.YtijhndmmljicmaaDoorB
import Derived.WalkKit
import Derived.WalkSpells
import Derived.ProofKit
import Derived.Outline
import Derived.Handy
import Derived.RowKit3
import Derived.BigQuiet
import Derived.Deep.QuietTactic
import Derived.Deep.RegionHeld3
import Derived.IntWalk
namespace Go.Proofs.YtijhndmmljicmaaDoor
open Go.RowKit
set_option linter.unusedVariables false
set_option maxRecDepth 100000

def letS (s : Int) : ByteArray := if s = 0 then ⟨#[73]⟩ else if s = 1 then ⟨#[83]⟩ else if s = 2 then ⟨#[69]⟩ else if s = 3 then ⟨#[79]⟩ else if s = 4 then ⟨#[77]⟩ else ⟨#[]⟩
theorem ret_str {a b : ByteArray} (h : a = b) : Ending.returned (.string a) = .returned (.string b) := by rw [h]
theorem out_of {s : Int} (h : isB s = false) : ¬ (0 ≤ s ∧ s ≤ 4) := by unfold isB at h; simpa using h
theorem field0 (x1 x2 x3 x4 x5 x6 : Value) (x : ByteArray) (w : World) : (Instr.field 41 (.agg #[(.string x), x1, x2, x3, x4, x5, x6]) 0).run Tryd.prog w = .ok (.string x) w := by kernel_rfl
theorem field1 (x0 x2 x3 x4 x5 x6 : Value) (x : Bool) (w : World) : (Instr.field 41 (.agg #[x0, (.bool x), x2, x3, x4, x5, x6]) 1).run Tryd.prog w = .ok (.bool x) w := by kernel_rfl
theorem field2 (x0 x1 x3 x4 x5 x6 : Value) (x : Bool) (w : World) : (Instr.field 41 (.agg #[x0, x1, (.bool x), x3, x4, x5, x6]) 2).run Tryd.prog w = .ok (.bool x) w := by kernel_rfl
theorem field3 (x0 x1 x2 x4 x5 x6 : Value) (x : Bool) (w : World) : (Instr.field 41 (.agg #[x0, x1, x2, (.bool x), x4, x5, x6]) 3).run Tryd.prog w = .ok (.bool x) w := by kernel_rfl
theorem field4 (x0 x1 x2 x3 x5 x6 : Value) (x : Bool) (w : World) : (Instr.field 41 (.agg #[x0, x1, x2, x3, (.bool x), x5, x6]) 4).run Tryd.prog w = .ok (.bool x) w := by kernel_rfl
theorem field5 (x0 x1 x2 x3 x4 x6 : Value) (x : Int) (w : World) : (Instr.field 41 (.agg #[x0, x1, x2, x3, x4, (.int .i64 x), x6]) 5).run Tryd.prog w = .ok (.int .i64 x) w := by kernel_rfl
theorem field6 (x0 x1 x2 x3 x4 x5 : Value) (x : Int) (w : World) : (Instr.field 41 (.agg #[x0, x1, x2, x3, x4, x5, (.int .i64 x)]) 6).run Tryd.prog w = .ok (.int .i64 x) w := by kernel_rfl

theorem load_any (s : Int) (w : World) (T : Tab w) : Calls Tryd.prog 12 #[.int .i64 s] w fun r w' => r = .returned (.bool (vaB s)) ∧ Below w.heap.size w w' := by
  by_cases h : 0 ≤ s ∧ s ≤ 4
  · rcases five h with rfl | rfl | rfl | rfl | rfl
    · have hf := field1
      go_enter Tryd.func12, Tryd.ntmps12
      go_wp2_with fail
      refine (of_0 w T).mono ?_
      rintro r w1 ⟨rfl, hb⟩
      go_wp2
      go_ret
      exact ⟨ret_bool (by decide), hb⟩
    · have hf := field1
      go_enter Tryd.func12, Tryd.ntmps12
      go_wp2_with fail
      refine (of_1 w T).mono ?_
      rintro r w1 ⟨rfl, hb⟩
      go_wp2
      go_ret
      exact ⟨ret_bool (by decide), hb⟩
    · have hf := field1
      go_enter Tryd.func12, Tryd.ntmps12
      go_wp2_with fail
      refine (of_2 w T).mono ?_
      rintro r w1 ⟨rfl, hb⟩
      go_wp2
      go_ret
      exact ⟨ret_bool (by decide), hb⟩
    · have hf := field1
      go_enter Tryd.func12, Tryd.ntmps12
      go_wp2_with fail
      refine (of_3 w T).mono ?_
      rintro r w1 ⟨rfl, hb⟩
      go_wp2
      go_ret
      exact ⟨ret_bool (by decide), hb⟩
    · have hf := field1
      go_enter Tryd.func12, Tryd.ntmps12
      go_wp2_with fail
      refine (of_4 w T).mono ?_
      rintro r w1 ⟨rfl, hb⟩
      go_wp2
      go_ret
      exact ⟨ret_bool (by decide), hb⟩
  · have hi : isB s = false := by unfold isB; simpa using h
    have H := hide hi
    clear hi h
    have hf := field1
    go_enter Tryd.func12, Tryd.ntmps12
    go_wp2_with fail
    refine (of_out s H.out w).mono ?_
    rintro r w1 ⟨rfl, hb⟩
    go_wp2
    go_ret
    exact ⟨ret_bool (by have := out_of H.out; unfold vaB; simp; omega), hb⟩
theorem load_v (s : Int) (v : Bool) (h : vaB s = v) (w : World) (T : Tab w) : Calls Tryd.prog 12 #[.int .i64 s] w fun r w' => r = .returned (.bool v) ∧ Below w.heap.size w w' := by
  subst h; exact load_any s w T

theorem store_any (s : Int) (w : World) (T : Tab w) : Calls Tryd.prog 13 #[.int .i64 s] w fun r w' => r = .returned (.bool (stB s)) ∧ Below w.heap.size w w' := by
  by_cases h : 0 ≤ s ∧ s ≤ 4
  · rcases five h with rfl | rfl | rfl | rfl | rfl
    · have hf := field2
      go_enter Tryd.func13, Tryd.ntmps13
      go_wp2_with fail
      refine (of_0 w T).mono ?_
      rintro r w1 ⟨rfl, hb⟩
      go_wp2
      go_ret
      exact ⟨ret_bool (by decide), hb⟩
    · have hf := field2
      go_enter Tryd.func13, Tryd.ntmps13
      go_wp2_with fail
      refine (of_1 w T).mono ?_
      rintro r w1 ⟨rfl, hb⟩
      go_wp2
      go_ret
      exact ⟨ret_bool (by decide), hb⟩
    · have hf := field2
      go_enter Tryd.func13, Tryd.ntmps13
      go_wp2_with fail
      refine (of_2 w T).mono ?_
      rintro r w1 ⟨rfl, hb⟩
      go_wp2
      go_ret
      exact ⟨ret_bool (by decide), hb⟩
    · have hf := field2
      go_enter Tryd.func13, Tryd.ntmps13
      go_wp2_with fail
      refine (of_3 w T).mono ?_
      rintro r w1 ⟨rfl, hb⟩
      go_wp2
      go_ret
      exact ⟨ret_bool (by decide), hb⟩
    · have hf := field2
      go_enter Tryd.func13, Tryd.ntmps13
      go_wp2_with fail
      refine (of_4 w T).mono ?_
      rintro r w1 ⟨rfl, hb⟩
      go_wp2
      go_ret
      exact ⟨ret_bool (by decide), hb⟩
  · have hi : isB s = false := by unfold isB; simpa using h
    have H := hide hi
    clear hi h
    have hf := field2
    go_enter Tryd.func13, Tryd.ntmps13
    go_wp2_with fail
    refine (of_out s H.out w).mono ?_
    rintro r w1 ⟨rfl, hb⟩
    go_wp2
    go_ret
    exact ⟨ret_bool (by have := out_of H.out; unfold stB; simp; omega), hb⟩
theorem store_v (s : Int) (v : Bool) (h : stB s = v) (w : World) (T : Tab w) : Calls Tryd.prog 13 #[.int .i64 s] w fun r w' => r = .returned (.bool v) ∧ Below w.heap.size w w' := by
  subst h; exact store_any s w T

theorem dirty_any (s : Int) (w : World) (T : Tab w) : Calls Tryd.prog 15 #[.int .i64 s] w fun r w' => r = .returned (.bool (diB s)) ∧ Below w.heap.size w w' := by
  by_cases h : 0 ≤ s ∧ s ≤ 4
  · rcases five h with rfl | rfl | rfl | rfl | rfl
    · have hf := field3
      go_enter Tryd.func15, Tryd.ntmps15
      go_wp2_with fail
      refine (of_0 w T).mono ?_
      rintro r w1 ⟨rfl, hb⟩
      go_wp2
      go_ret
      exact ⟨ret_bool (by decide), hb⟩
    · have hf := field3
      go_enter Tryd.func15, Tryd.ntmps15
      go_wp2_with fail
      refine (of_1 w T).mono ?_
      rintro r w1 ⟨rfl, hb⟩
      go_wp2
      go_ret
      exact ⟨ret_bool (by decide), hb⟩
    · have hf := field3
      go_enter Tryd.func15, Tryd.ntmps15
      go_wp2_with fail
      refine (of_2 w T).mono ?_
      rintro r w1 ⟨rfl, hb⟩
      go_wp2
      go_ret
      exact ⟨ret_bool (by decide), hb⟩
    · have hf := field3
      go_enter Tryd.func15, Tryd.ntmps15
      go_wp2_with fail
      refine (of_3 w T).mono ?_
      rintro r w1 ⟨rfl, hb⟩
      go_wp2
      go_ret
      exact ⟨ret_bool (by decide), hb⟩
    · have hf := field3
      go_enter Tryd.func15, Tryd.ntmps15
      go_wp2_with fail
      refine (of_4 w T).mono ?_
      rintro r w1 ⟨rfl, hb⟩
      go_wp2
      go_ret
      exact ⟨ret_bool (by decide), hb⟩
  · have hi : isB s = false := by unfold isB; simpa using h
    have H := hide hi
    clear hi h
    have hf := field3
    go_enter Tryd.func15, Tryd.ntmps15
    go_wp2_with fail
    refine (of_out s H.out w).mono ?_
    rintro r w1 ⟨rfl, hb⟩
    go_wp2
    go_ret
    exact ⟨ret_bool (by have := out_of H.out; unfold diB; simp; omega), hb⟩
theorem dirty_v (s : Int) (v : Bool) (h : diB s = v) (w : World) (T : Tab w) : Calls Tryd.prog 15 #[.int .i64 s] w fun r w' => r = .returned (.bool v) ∧ Below w.heap.size w w' := by
  subst h; exact dirty_any s w T

theorem owner_any (s : Int) (w : World) (T : Tab w) : Calls Tryd.prog 17 #[.int .i64 s] w fun r w' => r = .returned (.bool (owB s)) ∧ Below w.heap.size w w' := by
  by_cases h : 0 ≤ s ∧ s ≤ 4
  · rcases five h with rfl | rfl | rfl | rfl | rfl
    · have hf := field4
      go_enter Tryd.func17, Tryd.ntmps17
      go_wp2_with fail
      refine (of_0 w T).mono ?_
      rintro r w1 ⟨rfl, hb⟩
      go_wp2
      go_ret
      exact ⟨ret_bool (by decide), hb⟩
    · have hf := field4
      go_enter Tryd.func17, Tryd.ntmps17
      go_wp2_with fail
      refine (of_1 w T).mono ?_
      rintro r w1 ⟨rfl, hb⟩
      go_wp2
      go_ret
      exact ⟨ret_bool (by decide), hb⟩
    · have hf := field4
      go_enter Tryd.func17, Tryd.ntmps17
      go_wp2_with fail
      refine (of_2 w T).mono ?_
      rintro r w1 ⟨rfl, hb⟩
      go_wp2
      go_ret
      exact ⟨ret_bool (by decide), hb⟩
    · have hf := field4
      go_enter Tryd.func17, Tryd.ntmps17
      go_wp2_with fail
      refine (of_3 w T).mono ?_
      rintro r w1 ⟨rfl, hb⟩
      go_wp2
      go_ret
      exact ⟨ret_bool (by decide), hb⟩
    · have hf := field4
      go_enter Tryd.func17, Tryd.ntmps17
      go_wp2_with fail
      refine (of_4 w T).mono ?_
      rintro r w1 ⟨rfl, hb⟩
      go_wp2
      go_ret
      exact ⟨ret_bool (by decide), hb⟩
  · have hi : isB s = false := by unfold isB; simpa using h
    have H := hide hi
    clear hi h
    have hf := field4
    go_enter Tryd.func17, Tryd.ntmps17
    go_wp2_with fail
    refine (of_out s H.out w).mono ?_
    rintro r w1 ⟨rfl, hb⟩
    go_wp2
    go_ret
    exact ⟨ret_bool (by have := out_of H.out; unfold owB; simp; omega), hb⟩
theorem owner_v (s : Int) (v : Bool) (h : owB s = v) (w : World) (T : Tab w) : Calls Tryd.prog 17 #[.int .i64 s] w fun r w' => r = .returned (.bool v) ∧ Below w.heap.size w w' := by
  subst h; exact owner_any s w T

theorem name_any (s : Int) (w : World) (T : Tab w) : Calls Tryd.prog 19 #[.int .i64 s] w fun r w' => r = .returned (.string (letS s)) ∧ Below w.heap.size w w' := by
  by_cases h : 0 ≤ s ∧ s ≤ 4
  · rcases five h with rfl | rfl | rfl | rfl | rfl
    · have hf := field0
      go_enter Tryd.func19, Tryd.ntmps19
      go_wp2_with fail
      refine (of_0 w T).mono ?_
      rintro r w1 ⟨rfl, hb⟩
      go_wp2
      go_ret
      exact ⟨ret_str (by rfl), hb⟩
    · have hf := field0
      go_enter Tryd.func19, Tryd.ntmps19
      go_wp2_with fail
      refine (of_1 w T).mono ?_
      rintro r w1 ⟨rfl, hb⟩
      go_wp2
      go_ret
      exact ⟨ret_str (by rfl), hb⟩
    · have hf := field0
      go_enter Tryd.func19, Tryd.ntmps19
      go_wp2_with fail
      refine (of_2 w T).mono ?_
      rintro r w1 ⟨rfl, hb⟩
      go_wp2
      go_ret
      exact ⟨ret_str (by rfl), hb⟩
    · have hf := field0
      go_enter Tryd.func19, Tryd.ntmps19
      go_wp2_with fail
      refine (of_3 w T).mono ?_
      rintro r w1 ⟨rfl, hb⟩
      go_wp2
      go_ret
      exact ⟨ret_str (by rfl), hb⟩
    · have hf := field0
      go_enter Tryd.func19, Tryd.ntmps19
      go_wp2_with fail
      refine (of_4 w T).mono ?_
      rintro r w1 ⟨rfl, hb⟩
      go_wp2
      go_ret
      exact ⟨ret_str (by rfl), hb⟩
  · have hi : isB s = false := by unfold isB; simpa using h
    have H := hide hi
    clear hi h
    have hf := field0
    go_enter Tryd.func19, Tryd.ntmps19
    go_wp2_with fail
    refine (of_out s H.out w).mono ?_
    rintro r w1 ⟨rfl, hb⟩
    go_wp2
    go_ret
    exact ⟨ret_str (by have := out_of H.out; unfold letS; rw [if_neg (by omega), if_neg (by omega), if_neg (by omega), if_neg (by omega), if_neg (by omega)]), hb⟩

theorem valid_any (s : Int) (w : World) : Calls Tryd.prog 10 #[.int .i64 s] w fun r w' => r = .returned (.bool (vaB s)) ∧ w = w' := by
  by_cases h : 0 ≤ s ∧ s ≤ 4
  · have hi : isB s = true := by unfold isB; simpa using h
    have H := hide hi
    obtain ⟨h1, h2⟩ := h
    clear hi
    go_enter Tryd.func10, Tryd.ntmps10
    go_wp2_with fail
    refine (is_v s true H.out w).mono ?_
    rintro r w1 ⟨rfl, rfl⟩
    go_wp2
    go_ret
    exact ⟨ret_bool (by unfold vaB; rw [Bool.eq_iff_iff]; simp; omega), rfl⟩
  · have hi : isB s = false := by unfold isB; simpa using h
    have H := hide hi
    clear hi
    have h := hide h
    go_enter Tryd.func10, Tryd.ntmps10
    go_wp2_with fail
    refine (is_v s false H.out w).mono ?_
    rintro r w1 ⟨rfl, rfl⟩
    go_wp2
    go_ret
    exact ⟨ret_bool (by unfold vaB; have := h.out; simp; omega), rfl⟩
theorem valid_v (s : Int) (v : Bool) (h : vaB s = v) (w : World) : Calls Tryd.prog 10 #[.int .i64 s] w fun r w' => r = .returned (.bool v) ∧ w = w' := by
  subst h; exact valid_any s w
end Go.Proofs.YtijhndmmljicmaaDoor
