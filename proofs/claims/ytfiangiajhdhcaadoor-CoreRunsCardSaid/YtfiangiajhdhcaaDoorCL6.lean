/- Where a core comes to. No condition. -/
import Derived.Test.YtfiangiajhdhcaaDoorCL4
import Derived.KernelRfl
namespace Go.Proofs.YtfiangiajhdhcaaDoor
open Go.RowKit
set_option linter.unusedVariables false
set_option maxRecDepth 100000

/-! Where a core comes to. -/
theorem leafP_ok {A : Asm} {I : Nat → Int} {v : SV} {bs : List SBlk} (hA : A.Holds I) (h : leafP A v bs = true) (ho : outUnder 25 v bs = true) :
    (0 ≤ blkN I bs 4 ∧ blkN I bs 4 ≤ I 8) ∧ (tupN I v 7 = 1 ∨ tupN I v 7 = 0 ∧ (I 8 ≤ I 4 ∨ (I 9 ≠ 1 ∧ I 9 ≠ 2 ∧ I 9 ≠ 6 ∧ I 9 ≠ 7 ∧ I 9 ≠ 9 ∧ I 9 ≠ 10))) := by
  unfold leafP at h
  split at h
  · rename_i x d k0 a0 a1 a2 a3 e a5 a6 a7 a8 y z
    simp only [Bool.and_eq_true, Bool.or_eq_true] at h
    obtain ⟨⟨h1, h2⟩, h3⟩ := h
    have g1 : e.den I ≥ 0 := of_decide_eq_true (yes_ok hA h1)
    have g2 : e.den I ≤ I 8 := of_decide_eq_true (yes_ok hA h2)
    refine ⟨⟨g1, g2⟩, ?_⟩
    have hx : tupN I (.tup [x, .bool d]) 7 = (if d then 1 else 0) := by
      unfold outUnder at ho
      split at ho
      · rename_i q1 q2
        injection q1 with q1
        injection q1 with q1 q3
        injection q3 with q3
        subst q1 q3
        rfl
      · cases ho
    rw [hx]
    rcases h3 with h3 | h3 | ⟨⟨m1, m2, m3⟩, m4, m5, m6⟩
    · subst h3; exact .inl rfl
    · cases d
      · have := yes_ok hA h3
        have this : I 4 ≥ I 8 := of_decide_eq_true this
        exact .inr ⟨rfl, .inl this⟩
      · exact .inl rfl
    · cases d
      · have q1 := yes_ok hA m1
        have q2 := yes_ok hA m2
        have q3 := yes_ok hA m3
        have q4 := yes_ok hA m4
        have q5 := yes_ok hA m5
        have q6 := yes_ok hA m6
        simp only [cmpD, IE.den, bne_iff_ne, ne_eq] at q1 q2 q3 q4 q5 q6
        exact .inr ⟨rfl, .inr ⟨q1, q2, q3, q4, q5, q6⟩⟩
      · exact .inl rfl
  · cases h
theorem loc_place {I : Nat → Int} {p : Pg} (hp : p.ok) (f8 : I 8 = p.L) (hi : ∀ j, j < 4 → I (9 + j) = p.ins (I 4) j) (h4 : 0 ≤ I 4 ∧ I 4 ≤ p.L) : ∃ A : Asm, A.Holds I ∧ leafP A ((locT I).at I).1 ((locT I).at I).2 = true := by
  have le := hp.le
  have i9 : I 9 = p.ins (I 4) 0 := hi 0 (by omega)
  have i10 : I 10 = p.ins (I 4) 1 := hi 1 (by omega)
  have i11 : I 11 = p.ins (I 4) 2 := hi 2 (by omega)
  have i12 : I 12 = p.ins (I 4) 3 := hi 3 (by omega)
  have ik := hp.ins (I 4)
  rw [← i9, ← i10, ← i11, ← i12] at ik
  obtain ⟨ko, k1, k2, k3, k7, k8, k9, k10⟩ := ik
  by_cases o1 : I 9 = 1
  · have e : locT I = tl1 := by simp only [locT]; rw [if_pos o1]
    rw [e]
    have := k1 o1
    refine LTree.each_ok ⟨fun o x y r hm => ?_, fun x y hm => by cases hm⟩ pl1
    simp only [asmL1, rg, List.cons_append, List.nil_append, List.mem_cons, List.not_mem_nil, or_false, Prod.mk.injEq] at hm
    rcases hm with ⟨rfl, rfl, rfl, rfl⟩ | ⟨rfl, rfl, rfl, rfl⟩ | ⟨rfl, rfl, rfl, rfl⟩ | ⟨rfl, rfl, rfl, rfl⟩ | ⟨rfl, rfl, rfl, rfl⟩ | ⟨rfl, rfl, rfl, rfl⟩ | ⟨rfl, rfl, rfl, rfl⟩ | ⟨rfl, rfl, rfl, rfl⟩
    all_goals first | exact decide_eq_true (by simp only [IE.den]; omega) | exact beq_iff_eq.2 (by simp only [IE.den]; omega) | exact beq_eq_false_iff_ne.2 (by simp only [IE.den]; omega)
  by_cases o2 : I 9 = 2
  · have kk := k2 o2
    obtain ⟨ka, kb, kc⟩ := kk
    have ca : I 10 = 0 ∨ I 10 = 1 ∨ I 10 = 2 ∨ I 10 = 3 := by omega
    have cb : I 11 = 0 ∨ I 11 = 1 ∨ I 11 = 2 ∨ I 11 = 3 := by omega
    rcases ca with ca | ca | ca | ca <;> rcases cb with cb | cb | cb | cb
    · have e : locT I = tl2_00 := by simp [locT, o2, ca, cb]
      rw [e]
      refine LTree.each_ok ⟨fun o x y r hm => ?_, fun x y hm => by cases hm⟩ pl2_00
      simp only [asmL2_00, rg, List.cons_append, List.nil_append, List.mem_cons, List.not_mem_nil, or_false, Prod.mk.injEq] at hm
      rcases hm with ⟨rfl, rfl, rfl, rfl⟩ | ⟨rfl, rfl, rfl, rfl⟩ | ⟨rfl, rfl, rfl, rfl⟩ | ⟨rfl, rfl, rfl, rfl⟩ | ⟨rfl, rfl, rfl, rfl⟩ | ⟨rfl, rfl, rfl, rfl⟩ | ⟨rfl, rfl, rfl, rfl⟩ | ⟨rfl, rfl, rfl, rfl⟩ | ⟨rfl, rfl, rfl, rfl⟩ | ⟨rfl, rfl, rfl, rfl⟩
      all_goals first | exact decide_eq_true (by simp only [IE.den]; omega) | exact beq_iff_eq.2 (by simp only [IE.den]; omega) | exact beq_eq_false_iff_ne.2 (by simp only [IE.den]; omega)
    · have e : locT I = tl2_01 := by simp [locT, o2, ca, cb]
      rw [e]
      refine LTree.each_ok ⟨fun o x y r hm => ?_, fun x y hm => by cases hm⟩ pl2_01
      simp only [asmL2_01, rg, List.cons_append, List.nil_append, List.mem_cons, List.not_mem_nil, or_false, Prod.mk.injEq] at hm
      rcases hm with ⟨rfl, rfl, rfl, rfl⟩ | ⟨rfl, rfl, rfl, rfl⟩ | ⟨rfl, rfl, rfl, rfl⟩ | ⟨rfl, rfl, rfl, rfl⟩ | ⟨rfl, rfl, rfl, rfl⟩ | ⟨rfl, rfl, rfl, rfl⟩ | ⟨rfl, rfl, rfl, rfl⟩ | ⟨rfl, rfl, rfl, rfl⟩ | ⟨rfl, rfl, rfl, rfl⟩ | ⟨rfl, rfl, rfl, rfl⟩
      all_goals first | exact decide_eq_true (by simp only [IE.den]; omega) | exact beq_iff_eq.2 (by simp only [IE.den]; omega) | exact beq_eq_false_iff_ne.2 (by simp only [IE.den]; omega)
    · have e : locT I = tl2_02 := by simp [locT, o2, ca, cb]
      rw [e]
      refine LTree.each_ok ⟨fun o x y r hm => ?_, fun x y hm => by cases hm⟩ pl2_02
      simp only [asmL2_02, rg, List.cons_append, List.nil_append, List.mem_cons, List.not_mem_nil, or_false, Prod.mk.injEq] at hm
      rcases hm with ⟨rfl, rfl, rfl, rfl⟩ | ⟨rfl, rfl, rfl, rfl⟩ | ⟨rfl, rfl, rfl, rfl⟩ | ⟨rfl, rfl, rfl, rfl⟩ | ⟨rfl, rfl, rfl, rfl⟩ | ⟨rfl, rfl, rfl, rfl⟩ | ⟨rfl, rfl, rfl, rfl⟩ | ⟨rfl, rfl, rfl, rfl⟩ | ⟨rfl, rfl, rfl, rfl⟩ | ⟨rfl, rfl, rfl, rfl⟩
      all_goals first | exact decide_eq_true (by simp only [IE.den]; omega) | exact beq_iff_eq.2 (by simp only [IE.den]; omega) | exact beq_eq_false_iff_ne.2 (by simp only [IE.den]; omega)
    · have e : locT I = tl2_03 := by simp [locT, o2, ca, cb]
      rw [e]
      refine LTree.each_ok ⟨fun o x y r hm => ?_, fun x y hm => by cases hm⟩ pl2_03
      simp only [asmL2_03, rg, List.cons_append, List.nil_append, List.mem_cons, List.not_mem_nil, or_false, Prod.mk.injEq] at hm
      rcases hm with ⟨rfl, rfl, rfl, rfl⟩ | ⟨rfl, rfl, rfl, rfl⟩ | ⟨rfl, rfl, rfl, rfl⟩ | ⟨rfl, rfl, rfl, rfl⟩ | ⟨rfl, rfl, rfl, rfl⟩ | ⟨rfl, rfl, rfl, rfl⟩ | ⟨rfl, rfl, rfl, rfl⟩ | ⟨rfl, rfl, rfl, rfl⟩ | ⟨rfl, rfl, rfl, rfl⟩ | ⟨rfl, rfl, rfl, rfl⟩
      all_goals first | exact decide_eq_true (by simp only [IE.den]; omega) | exact beq_iff_eq.2 (by simp only [IE.den]; omega) | exact beq_eq_false_iff_ne.2 (by simp only [IE.den]; omega)
    · have e : locT I = tl2_10 := by simp [locT, o2, ca, cb]
      rw [e]
      refine LTree.each_ok ⟨fun o x y r hm => ?_, fun x y hm => by cases hm⟩ pl2_10
      simp only [asmL2_10, rg, List.cons_append, List.nil_append, List.mem_cons, List.not_mem_nil, or_false, Prod.mk.injEq] at hm
      rcases hm with ⟨rfl, rfl, rfl, rfl⟩ | ⟨rfl, rfl, rfl, rfl⟩ | ⟨rfl, rfl, rfl, rfl⟩ | ⟨rfl, rfl, rfl, rfl⟩ | ⟨rfl, rfl, rfl, rfl⟩ | ⟨rfl, rfl, rfl, rfl⟩ | ⟨rfl, rfl, rfl, rfl⟩ | ⟨rfl, rfl, rfl, rfl⟩ | ⟨rfl, rfl, rfl, rfl⟩ | ⟨rfl, rfl, rfl, rfl⟩
      all_goals first | exact decide_eq_true (by simp only [IE.den]; omega) | exact beq_iff_eq.2 (by simp only [IE.den]; omega) | exact beq_eq_false_iff_ne.2 (by simp only [IE.den]; omega)
    · have e : locT I = tl2_11 := by simp [locT, o2, ca, cb]
      rw [e]
      refine LTree.each_ok ⟨fun o x y r hm => ?_, fun x y hm => by cases hm⟩ pl2_11
      simp only [asmL2_11, rg, List.cons_append, List.nil_append, List.mem_cons, List.not_mem_nil, or_false, Prod.mk.injEq] at hm
      rcases hm with ⟨rfl, rfl, rfl, rfl⟩ | ⟨rfl, rfl, rfl, rfl⟩ | ⟨rfl, rfl, rfl, rfl⟩ | ⟨rfl, rfl, rfl, rfl⟩ | ⟨rfl, rfl, rfl, rfl⟩ | ⟨rfl, rfl, rfl, rfl⟩ | ⟨rfl, rfl, rfl, rfl⟩ | ⟨rfl, rfl, rfl, rfl⟩ | ⟨rfl, rfl, rfl, rfl⟩ | ⟨rfl, rfl, rfl, rfl⟩
      all_goals first | exact decide_eq_true (by simp only [IE.den]; omega) | exact beq_iff_eq.2 (by simp only [IE.den]; omega) | exact beq_eq_false_iff_ne.2 (by simp only [IE.den]; omega)
    · have e : locT I = tl2_12 := by simp [locT, o2, ca, cb]
      rw [e]
      refine LTree.each_ok ⟨fun o x y r hm => ?_, fun x y hm => by cases hm⟩ pl2_12
      simp only [asmL2_12, rg, List.cons_append, List.nil_append, List.mem_cons, List.not_mem_nil, or_false, Prod.mk.injEq] at hm
      rcases hm with ⟨rfl, rfl, rfl, rfl⟩ | ⟨rfl, rfl, rfl, rfl⟩ | ⟨rfl, rfl, rfl, rfl⟩ | ⟨rfl, rfl, rfl, rfl⟩ | ⟨rfl, rfl, rfl, rfl⟩ | ⟨rfl, rfl, rfl, rfl⟩ | ⟨rfl, rfl, rfl, rfl⟩ | ⟨rfl, rfl, rfl, rfl⟩ | ⟨rfl, rfl, rfl, rfl⟩ | ⟨rfl, rfl, rfl, rfl⟩
      all_goals first | exact decide_eq_true (by simp only [IE.den]; omega) | exact beq_iff_eq.2 (by simp only [IE.den]; omega) | exact beq_eq_false_iff_ne.2 (by simp only [IE.den]; omega)
    · have e : locT I = tl2_13 := by simp [locT, o2, ca, cb]
      rw [e]
      refine LTree.each_ok ⟨fun o x y r hm => ?_, fun x y hm => by cases hm⟩ pl2_13
      simp only [asmL2_13, rg, List.cons_append, List.nil_append, List.mem_cons, List.not_mem_nil, or_false, Prod.mk.injEq] at hm
      rcases hm with ⟨rfl, rfl, rfl, rfl⟩ | ⟨rfl, rfl, rfl, rfl⟩ | ⟨rfl, rfl, rfl, rfl⟩ | ⟨rfl, rfl, rfl, rfl⟩ | ⟨rfl, rfl, rfl, rfl⟩ | ⟨rfl, rfl, rfl, rfl⟩ | ⟨rfl, rfl, rfl, rfl⟩ | ⟨rfl, rfl, rfl, rfl⟩ | ⟨rfl, rfl, rfl, rfl⟩ | ⟨rfl, rfl, rfl, rfl⟩
      all_goals first | exact decide_eq_true (by simp only [IE.den]; omega) | exact beq_iff_eq.2 (by simp only [IE.den]; omega) | exact beq_eq_false_iff_ne.2 (by simp only [IE.den]; omega)
    · have e : locT I = tl2_20 := by simp [locT, o2, ca, cb]
      rw [e]
      refine LTree.each_ok ⟨fun o x y r hm => ?_, fun x y hm => by cases hm⟩ pl2_20
      simp only [asmL2_20, rg, List.cons_append, List.nil_append, List.mem_cons, List.not_mem_nil, or_false, Prod.mk.injEq] at hm
      rcases hm with ⟨rfl, rfl, rfl, rfl⟩ | ⟨rfl, rfl, rfl, rfl⟩ | ⟨rfl, rfl, rfl, rfl⟩ | ⟨rfl, rfl, rfl, rfl⟩ | ⟨rfl, rfl, rfl, rfl⟩ | ⟨rfl, rfl, rfl, rfl⟩ | ⟨rfl, rfl, rfl, rfl⟩ | ⟨rfl, rfl, rfl, rfl⟩ | ⟨rfl, rfl, rfl, rfl⟩ | ⟨rfl, rfl, rfl, rfl⟩
      all_goals first | exact decide_eq_true (by simp only [IE.den]; omega) | exact beq_iff_eq.2 (by simp only [IE.den]; omega) | exact beq_eq_false_iff_ne.2 (by simp only [IE.den]; omega)
    · have e : locT I = tl2_21 := by simp [locT, o2, ca, cb]
      rw [e]
      refine LTree.each_ok ⟨fun o x y r hm => ?_, fun x y hm => by cases hm⟩ pl2_21
      simp only [asmL2_21, rg, List.cons_append, List.nil_append, List.mem_cons, List.not_mem_nil, or_false, Prod.mk.injEq] at hm
      rcases hm with ⟨rfl, rfl, rfl, rfl⟩ | ⟨rfl, rfl, rfl, rfl⟩ | ⟨rfl, rfl, rfl, rfl⟩ | ⟨rfl, rfl, rfl, rfl⟩ | ⟨rfl, rfl, rfl, rfl⟩ | ⟨rfl, rfl, rfl, rfl⟩ | ⟨rfl, rfl, rfl, rfl⟩ | ⟨rfl, rfl, rfl, rfl⟩ | ⟨rfl, rfl, rfl, rfl⟩ | ⟨rfl, rfl, rfl, rfl⟩
      all_goals first | exact decide_eq_true (by simp only [IE.den]; omega) | exact beq_iff_eq.2 (by simp only [IE.den]; omega) | exact beq_eq_false_iff_ne.2 (by simp only [IE.den]; omega)
    · have e : locT I = tl2_22 := by simp [locT, o2, ca, cb]
      rw [e]
      refine LTree.each_ok ⟨fun o x y r hm => ?_, fun x y hm => by cases hm⟩ pl2_22
      simp only [asmL2_22, rg, List.cons_append, List.nil_append, List.mem_cons, List.not_mem_nil, or_false, Prod.mk.injEq] at hm
      rcases hm with ⟨rfl, rfl, rfl, rfl⟩ | ⟨rfl, rfl, rfl, rfl⟩ | ⟨rfl, rfl, rfl, rfl⟩ | ⟨rfl, rfl, rfl, rfl⟩ | ⟨rfl, rfl, rfl, rfl⟩ | ⟨rfl, rfl, rfl, rfl⟩ | ⟨rfl, rfl, rfl, rfl⟩ | ⟨rfl, rfl, rfl, rfl⟩ | ⟨rfl, rfl, rfl, rfl⟩ | ⟨rfl, rfl, rfl, rfl⟩
      all_goals first | exact decide_eq_true (by simp only [IE.den]; omega) | exact beq_iff_eq.2 (by simp only [IE.den]; omega) | exact beq_eq_false_iff_ne.2 (by simp only [IE.den]; omega)
    · have e : locT I = tl2_23 := by simp [locT, o2, ca, cb]
      rw [e]
      refine LTree.each_ok ⟨fun o x y r hm => ?_, fun x y hm => by cases hm⟩ pl2_23
      simp only [asmL2_23, rg, List.cons_append, List.nil_append, List.mem_cons, List.not_mem_nil, or_false, Prod.mk.injEq] at hm
      rcases hm with ⟨rfl, rfl, rfl, rfl⟩ | ⟨rfl, rfl, rfl, rfl⟩ | ⟨rfl, rfl, rfl, rfl⟩ | ⟨rfl, rfl, rfl, rfl⟩ | ⟨rfl, rfl, rfl, rfl⟩ | ⟨rfl, rfl, rfl, rfl⟩ | ⟨rfl, rfl, rfl, rfl⟩ | ⟨rfl, rfl, rfl, rfl⟩ | ⟨rfl, rfl, rfl, rfl⟩ | ⟨rfl, rfl, rfl, rfl⟩
      all_goals first | exact decide_eq_true (by simp only [IE.den]; omega) | exact beq_iff_eq.2 (by simp only [IE.den]; omega) | exact beq_eq_false_iff_ne.2 (by simp only [IE.den]; omega)
    · have e : locT I = tl2_30 := by simp [locT, o2, ca, cb]
      rw [e]
      refine LTree.each_ok ⟨fun o x y r hm => ?_, fun x y hm => by cases hm⟩ pl2_30
      simp only [asmL2_30, rg, List.cons_append, List.nil_append, List.mem_cons, List.not_mem_nil, or_false, Prod.mk.injEq] at hm
      rcases hm with ⟨rfl, rfl, rfl, rfl⟩ | ⟨rfl, rfl, rfl, rfl⟩ | ⟨rfl, rfl, rfl, rfl⟩ | ⟨rfl, rfl, rfl, rfl⟩ | ⟨rfl, rfl, rfl, rfl⟩ | ⟨rfl, rfl, rfl, rfl⟩ | ⟨rfl, rfl, rfl, rfl⟩ | ⟨rfl, rfl, rfl, rfl⟩ | ⟨rfl, rfl, rfl, rfl⟩ | ⟨rfl, rfl, rfl, rfl⟩
      all_goals first | exact decide_eq_true (by simp only [IE.den]; omega) | exact beq_iff_eq.2 (by simp only [IE.den]; omega) | exact beq_eq_false_iff_ne.2 (by simp only [IE.den]; omega)
    · have e : locT I = tl2_31 := by simp [locT, o2, ca, cb]
      rw [e]
      refine LTree.each_ok ⟨fun o x y r hm => ?_, fun x y hm => by cases hm⟩ pl2_31
      simp only [asmL2_31, rg, List.cons_append, List.nil_append, List.mem_cons, List.not_mem_nil, or_false, Prod.mk.injEq] at hm
      rcases hm with ⟨rfl, rfl, rfl, rfl⟩ | ⟨rfl, rfl, rfl, rfl⟩ | ⟨rfl, rfl, rfl, rfl⟩ | ⟨rfl, rfl, rfl, rfl⟩ | ⟨rfl, rfl, rfl, rfl⟩ | ⟨rfl, rfl, rfl, rfl⟩ | ⟨rfl, rfl, rfl, rfl⟩ | ⟨rfl, rfl, rfl, rfl⟩ | ⟨rfl, rfl, rfl, rfl⟩ | ⟨rfl, rfl, rfl, rfl⟩
      all_goals first | exact decide_eq_true (by simp only [IE.den]; omega) | exact beq_iff_eq.2 (by simp only [IE.den]; omega) | exact beq_eq_false_iff_ne.2 (by simp only [IE.den]; omega)
    · have e : locT I = tl2_32 := by simp [locT, o2, ca, cb]
      rw [e]
      refine LTree.each_ok ⟨fun o x y r hm => ?_, fun x y hm => by cases hm⟩ pl2_32
      simp only [asmL2_32, rg, List.cons_append, List.nil_append, List.mem_cons, List.not_mem_nil, or_false, Prod.mk.injEq] at hm
      rcases hm with ⟨rfl, rfl, rfl, rfl⟩ | ⟨rfl, rfl, rfl, rfl⟩ | ⟨rfl, rfl, rfl, rfl⟩ | ⟨rfl, rfl, rfl, rfl⟩ | ⟨rfl, rfl, rfl, rfl⟩ | ⟨rfl, rfl, rfl, rfl⟩ | ⟨rfl, rfl, rfl, rfl⟩ | ⟨rfl, rfl, rfl, rfl⟩ | ⟨rfl, rfl, rfl, rfl⟩ | ⟨rfl, rfl, rfl, rfl⟩
      all_goals first | exact decide_eq_true (by simp only [IE.den]; omega) | exact beq_iff_eq.2 (by simp only [IE.den]; omega) | exact beq_eq_false_iff_ne.2 (by simp only [IE.den]; omega)
    · have e : locT I = tl2_33 := by simp [locT, o2, ca, cb]
      rw [e]
      refine LTree.each_ok ⟨fun o x y r hm => ?_, fun x y hm => by cases hm⟩ pl2_33
      simp only [asmL2_33, rg, List.cons_append, List.nil_append, List.mem_cons, List.not_mem_nil, or_false, Prod.mk.injEq] at hm
      rcases hm with ⟨rfl, rfl, rfl, rfl⟩ | ⟨rfl, rfl, rfl, rfl⟩ | ⟨rfl, rfl, rfl, rfl⟩ | ⟨rfl, rfl, rfl, rfl⟩ | ⟨rfl, rfl, rfl, rfl⟩ | ⟨rfl, rfl, rfl, rfl⟩ | ⟨rfl, rfl, rfl, rfl⟩ | ⟨rfl, rfl, rfl, rfl⟩ | ⟨rfl, rfl, rfl, rfl⟩ | ⟨rfl, rfl, rfl, rfl⟩
      all_goals first | exact decide_eq_true (by simp only [IE.den]; omega) | exact beq_iff_eq.2 (by simp only [IE.den]; omega) | exact beq_eq_false_iff_ne.2 (by simp only [IE.den]; omega)
  by_cases o6 : I 9 = 6
  · have e : locT I = tl6 := by simp [locT, o6]
    rw [e]
    refine LTree.each_ok ⟨fun o x y r hm => ?_, fun x y hm => by cases hm⟩ pl6
    simp only [asmL6, rg, List.cons_append, List.nil_append, List.mem_cons, List.not_mem_nil, or_false, Prod.mk.injEq] at hm
    rcases hm with ⟨rfl, rfl, rfl, rfl⟩ | ⟨rfl, rfl, rfl, rfl⟩ | ⟨rfl, rfl, rfl, rfl⟩ | ⟨rfl, rfl, rfl, rfl⟩ | ⟨rfl, rfl, rfl, rfl⟩ | ⟨rfl, rfl, rfl, rfl⟩
    all_goals first | exact decide_eq_true (by simp only [IE.den]; omega) | exact beq_iff_eq.2 (by simp only [IE.den]; omega) | exact beq_eq_false_iff_ne.2 (by simp only [IE.den]; omega)
  by_cases o7 : I 9 = 7
  · have e : locT I = tl7 := by simp [locT, o7]
    rw [e]
    have kk := k7 o7
    refine LTree.each_ok ⟨fun o x y r hm => ?_, fun x y hm => by cases hm⟩ pl7
    simp only [asmL7, rg, List.cons_append, List.nil_append, List.mem_cons, List.not_mem_nil, or_false, Prod.mk.injEq] at hm
    rcases hm with ⟨rfl, rfl, rfl, rfl⟩ | ⟨rfl, rfl, rfl, rfl⟩ | ⟨rfl, rfl, rfl, rfl⟩ | ⟨rfl, rfl, rfl, rfl⟩ | ⟨rfl, rfl, rfl, rfl⟩ | ⟨rfl, rfl, rfl, rfl⟩ | ⟨rfl, rfl, rfl, rfl⟩ | ⟨rfl, rfl, rfl, rfl⟩
    all_goals first | exact decide_eq_true (by simp only [IE.den]; omega) | exact beq_iff_eq.2 (by simp only [IE.den]; omega) | exact beq_eq_false_iff_ne.2 (by simp only [IE.den]; omega)
  by_cases o9 : I 9 = 9
  · have e : locT I = tl9 := by simp [locT, o9]
    rw [e]
    have kk := k9 o9
    refine LTree.each_ok ⟨fun o x y r hm => ?_, fun x y hm => by cases hm⟩ pl9
    simp only [asmL9, rg, List.cons_append, List.nil_append, List.mem_cons, List.not_mem_nil, or_false, Prod.mk.injEq] at hm
    rcases hm with ⟨rfl, rfl, rfl, rfl⟩ | ⟨rfl, rfl, rfl, rfl⟩ | ⟨rfl, rfl, rfl, rfl⟩ | ⟨rfl, rfl, rfl, rfl⟩ | ⟨rfl, rfl, rfl, rfl⟩ | ⟨rfl, rfl, rfl, rfl⟩ | ⟨rfl, rfl, rfl, rfl⟩ | ⟨rfl, rfl, rfl, rfl⟩ | ⟨rfl, rfl, rfl, rfl⟩
    all_goals first | exact decide_eq_true (by simp only [IE.den]; omega) | exact beq_iff_eq.2 (by simp only [IE.den]; omega) | exact beq_eq_false_iff_ne.2 (by simp only [IE.den]; omega)
  by_cases o10 : I 9 = 10
  · have e : locT I = tl10 := by simp [locT, o10]
    rw [e]
    have kk := k10 o10
    refine LTree.each_ok ⟨fun o x y r hm => ?_, fun x y hm => by cases hm⟩ pl10
    simp only [asmL10, rg, List.cons_append, List.nil_append, List.mem_cons, List.not_mem_nil, or_false, Prod.mk.injEq] at hm
    rcases hm with ⟨rfl, rfl, rfl, rfl⟩ | ⟨rfl, rfl, rfl, rfl⟩ | ⟨rfl, rfl, rfl, rfl⟩ | ⟨rfl, rfl, rfl, rfl⟩ | ⟨rfl, rfl, rfl, rfl⟩ | ⟨rfl, rfl, rfl, rfl⟩ | ⟨rfl, rfl, rfl, rfl⟩ | ⟨rfl, rfl, rfl, rfl⟩ | ⟨rfl, rfl, rfl, rfl⟩ | ⟨rfl, rfl, rfl, rfl⟩ | ⟨rfl, rfl, rfl, rfl⟩
    all_goals first | exact decide_eq_true (by simp only [IE.den]; omega) | exact beq_iff_eq.2 (by simp only [IE.den]; omega) | exact beq_eq_false_iff_ne.2 (by simp only [IE.den]; omega)
  have e : locT I = tl0 := by simp [locT, o1, o2, o6, o7, o9, o10]
  rw [e]
  refine LTree.each_ok ⟨fun o x y r hm => ?_, fun x y hm => by cases hm⟩ pl0
  simp only [asmL0, rg, List.cons_append, List.nil_append, List.mem_cons, List.not_mem_nil, or_false, Prod.mk.injEq] at hm
  rcases hm with ⟨rfl, rfl, rfl, rfl⟩ | ⟨rfl, rfl, rfl, rfl⟩ | ⟨rfl, rfl, rfl, rfl⟩ | ⟨rfl, rfl, rfl, rfl⟩ | ⟨rfl, rfl, rfl, rfl⟩ | ⟨rfl, rfl, rfl, rfl⟩ | ⟨rfl, rfl, rfl, rfl⟩ | ⟨rfl, rfl, rfl, rfl⟩ | ⟨rfl, rfl, rfl, rfl⟩ | ⟨rfl, rfl, rfl, rfl⟩ | ⟨rfl, rfl, rfl, rfl⟩ | ⟨rfl, rfl, rfl, rfl⟩ | ⟨rfl, rfl, rfl, rfl⟩
  all_goals first | exact decide_eq_true (by simp only [IE.den]; omega) | exact beq_iff_eq.2 (by simp only [IE.den]; omega) | exact beq_eq_false_iff_ne.2 (by simp only [IE.den]; omega)
/-- Local keeps the place in the program, or at its end; where it does nothing, nothing is to be done, or the instruction asks someone. -/
theorem nxt_at {p : Pg} (hp : p.ok) (no : Int) {σ : Nat → Int} (h4 : 0 ≤ σ 4 ∧ σ 4 ≤ p.L) : (0 ≤ nxt p no σ 4 ∧ nxt p no σ 4 ≤ p.L) ∧
    (evt p no σ 7 = 1 ∨ evt p no σ 7 = 0 ∧ ((p.L : Int) ≤ σ 4 ∨ (p.ins (σ 4) 0 ≠ 1 ∧ p.ins (σ 4) 0 ≠ 2 ∧ p.ins (σ 4) 0 ≠ 6 ∧ p.ins (σ 4) 0 ≠ 7 ∧ p.ins (σ 4) 0 ≠ 9 ∧ p.ins (σ 4) 0 ≠ 10))) := by
  obtain ⟨A, hA, h⟩ := loc_place (I := locI p σ no) hp rfl (fun j hj => by
    have c : j = 0 ∨ j = 1 ∨ j = 2 ∨ j = 3 := by omega
    rcases c with rfl | rfl | rfl | rfl <;> rfl) h4
  have hs := locT_sb (locI p σ no)
  simp only [Bool.and_eq_true] at hs
  have ho := LTree.all_at (I := locI p σ no) hs.1
  simp only [Bool.and_eq_true] at ho
  exact leafP_ok hA h ho.1

/-- Where nothing is done, all is as it was. -/
noncomputable def leafS (v : SV) (bs : List SBlk) : Bool :=
  match v, bs with
  | .tup [_, .bool d], [.cells [.int _ (.at 0), .int _ (.at 1), .int _ (.at 2), .int _ (.at 3), .int _ (.at 4), .int _ (.at 5), .side (.at 6), _, _] _, _] => true
  | .tup [_, .bool d], _ => d
  | _, _ => false
theorem st1 : tl1.all leafS = true := by kernel_rfl
theorem st2_00 : tl2_00.all leafS = true := by kernel_rfl
theorem st2_01 : tl2_01.all leafS = true := by kernel_rfl
theorem st2_02 : tl2_02.all leafS = true := by kernel_rfl
theorem st2_03 : tl2_03.all leafS = true := by kernel_rfl
theorem st2_10 : tl2_10.all leafS = true := by kernel_rfl
theorem st2_11 : tl2_11.all leafS = true := by kernel_rfl
theorem st2_12 : tl2_12.all leafS = true := by kernel_rfl
theorem st2_13 : tl2_13.all leafS = true := by kernel_rfl
theorem st2_20 : tl2_20.all leafS = true := by kernel_rfl
theorem st2_21 : tl2_21.all leafS = true := by kernel_rfl
theorem st2_22 : tl2_22.all leafS = true := by kernel_rfl
theorem st2_23 : tl2_23.all leafS = true := by kernel_rfl
theorem st2_30 : tl2_30.all leafS = true := by kernel_rfl
theorem st2_31 : tl2_31.all leafS = true := by kernel_rfl
theorem st2_32 : tl2_32.all leafS = true := by kernel_rfl
theorem st2_33 : tl2_33.all leafS = true := by kernel_rfl
theorem st6 : tl6.all leafS = true := by kernel_rfl
theorem st7 : tl7.all leafS = true := by kernel_rfl
theorem st9 : tl9.all leafS = true := by kernel_rfl
theorem st10 : tl10.all leafS = true := by kernel_rfl
theorem st0 : tl0.all leafS = true := by kernel_rfl
theorem locT_st (I : Nat → Int) : (locT I).all leafS = true := by
  unfold locT
  repeat' split
  all_goals first | exact st1 | exact st2_00 | exact st2_01 | exact st2_02 | exact st2_03 | exact st2_10 | exact st2_11 | exact st2_12 | exact st2_13 | exact st2_20 | exact st2_21 | exact st2_22 | exact st2_23 | exact st2_30 | exact st2_31 | exact st2_32 | exact st2_33 | exact st6 | exact st7 | exact st9 | exact st10 | exact st0
theorem leafS_ok {I : Nat → Int} {v : SV} {bs : List SBlk} (h : leafS v bs = true) (ho : outUnder 25 v bs = true) (h0 : tupN I v 7 = 0) : ∀ j, j < 7 → blkN I bs j = I j := by
  unfold leafS at h
  split at h
  · intro j hj
    have c7 : j = 0 ∨ j = 1 ∨ j = 2 ∨ j = 3 ∨ j = 4 ∨ j = 5 ∨ j = 6 := by omega
    rcases c7 with rfl | rfl | rfl | rfl | rfl | rfl | rfl <;> rfl
  · rename_i x d _
    subst h
    exfalso
    unfold outUnder at ho
    split at ho
    · rename_i q1 q2
      injection q1 with q1
      injection q1 with q1 q3
      injection q3 with q3
      subst q1 q3
      exact absurd h0 (by show ¬ ((1 : Int) = 0); decide)
    · cases ho
  · cases h
theorem nxt_still (p : Pg) (no : Int) (σ : Nat → Int) (h0 : evt p no σ 7 = 0) : ∀ j, j < 7 → nxt p no σ j = σ j := by
  have hs := locT_sb (locI p σ no)
  simp only [Bool.and_eq_true] at hs
  have ho := LTree.all_at (I := locI p σ no) hs.1
  simp only [Bool.and_eq_true] at ho
  have hk := LTree.all_at (I := locI p σ no) (locT_st (locI p σ no))
  intro j hj
  have := leafS_ok hk ho.1 h0 j hj
  refine this.trans ?_
  simp only [locI]
  rw [if_pos hj]
theorem CoAt.congr {p : Pg} {σ τ : Nat → Int} {no : Int} {P : Nat} {q : Place} {w : World} (h : CoAt p σ no P q w) (e : ∀ j, j < 7 → σ j = τ j) : CoAt p τ no P q w := by
  refine ⟨?_, h.prog, h.apart, h.p0, h.q0⟩
  obtain ⟨c, el, us, h1, h2, h3⟩ := h.core
  refine ⟨c, el, us, h1, ?_, h3⟩
  obtain ⟨u0, t, d0, h2, rfl⟩ := h2
  obtain ⟨u1, t, d1, h2, rfl⟩ := h2
  obtain ⟨u2, t, d2, h2, rfl⟩ := h2
  obtain ⟨u3, t, d3, h2, rfl⟩ := h2
  obtain ⟨u4, t, d4, h2, rfl⟩ := h2
  obtain ⟨u5, t, d5, h2, rfl⟩ := h2
  obtain ⟨u6, t, d6, h2, rfl⟩ := h2
  obtain ⟨u7, t, d7, h2, rfl⟩ := h2
  obtain ⟨u8, t, d8, h2, rfl⟩ := h2
  cases h2
  have d8' : Den (stE p τ no) (rhoS [⟨P, 0, 9, undef⟩, q]) (.asl 1 (.at 8) 4 [] []) u8 := by
    obtain ⟨q, k0, k1, k2, av, c, k3, k4, _⟩ := d8
    exact ⟨q, k0, k1, k2, av, c, k3, fun x hx => (by cases hx), fun x hx => by cases hx⟩
  have n : ∀ j, j < 7 → (stE p σ no).I j = (stE p τ no).I j := fun j hj => by
    simp only [stE, locI]
    rw [if_pos (by omega), if_pos hj, if_pos (by omega), if_pos hj, e j hj]
  have i : ∀ j, j < 7 → ∀ u, Den (stE p σ no) (rhoS [⟨P, 0, 9, undef⟩, q]) (.int .i64 (.at j)) u → Den (stE p τ no) (rhoS [⟨P, 0, 9, undef⟩, q]) (.int .i64 (.at j)) u := fun j hj u hd => by
    simp only [Den, IE.den] at hd ⊢
    rw [← n j hj]; exact hd
  have s : ∀ j, j < 7 → ∀ u, Den (stE p σ no) (rhoS [⟨P, 0, 9, undef⟩, q]) (.side (.at j)) u → Den (stE p τ no) (rhoS [⟨P, 0, 9, undef⟩, q]) (.side (.at j)) u := fun j hj u hd => by
    simp only [Den, IE.den] at hd ⊢
    rw [← n j hj]; exact hd
  exact ⟨u0, _, i 0 (by omega) _ d0, ⟨u1, _, i 1 (by omega) _ d1, ⟨u2, _, i 2 (by omega) _ d2, ⟨u3, _, i 3 (by omega) _ d3, ⟨u4, _, i 4 (by omega) _ d4, ⟨u5, _, i 5 (by omega) _ d5, ⟨u6, _, s 6 (by omega) _ d6, ⟨u7, _, d7, ⟨u8, _, d8', rfl, rfl⟩, rfl⟩, rfl⟩, rfl⟩, rfl⟩, rfl⟩, rfl⟩, rfl⟩, rfl⟩
end Go.Proofs.YtfiangiajhdhcaaDoor
