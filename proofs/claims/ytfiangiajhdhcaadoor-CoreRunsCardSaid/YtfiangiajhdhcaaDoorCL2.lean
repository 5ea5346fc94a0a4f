/- Local of programs that may be. No condition. -/
import Derived.Test.YtfiangiajhdhcaaDoorCLA
import Derived.Test.YtfiangiajhdhcaaDoorCL1
namespace Go.Proofs.YtfiangiajhdhcaaDoor
open Go.RowKit
set_option linter.unusedVariables false
set_option maxRecDepth 100000

/-! Programs that may be; Local of them. -/
structure Pg.ok (p : Pg) : Prop where
  le : p.L ≤ 32
  at_ : ∀ i, i < p.L → mayE (p.A i) (p.B i) (p.C i) (p.D i) p.L = 0
/-- What is known of an instruction that may be. -/
structure InsOk (L : Nat) (o a b c : Int) : Prop where
  op : 1 ≤ o ∧ o ≤ 11
  set : o = 1 → 0 ≤ a ∧ a < 4
  add : o = 2 → (0 ≤ a ∧ a < 4) ∧ (0 ≤ b ∧ b < 4) ∧ 0 ≤ c ∧ c < 4
  mem : o = 3 ∨ o = 4 ∨ o = 5 → (0 ≤ a ∧ a < 4) ∧ 0 ≤ b ∧ b < 4
  world : o = 7 → 0 < a ∧ a ≤ 3
  call : o = 8 → (1 ≤ a ∧ a ≤ 4) ∧ (0 ≤ b ∧ b < 4) ∧ 0 ≤ c ∧ c < 4
  jump : o = 9 → 0 ≤ a ∧ a ≤ L
  zero : o = 10 → (0 ≤ a ∧ a < 4) ∧ 0 ≤ b ∧ b ≤ L
theorem insOk_of {L : Nat} {o a b c : Int} (h : mayE o a b c L = 0) : InsOk L o a b c := by
  have h1 : 1 ≤ o ∧ o ≤ 11 := by
    by_cases k : 1 ≤ o ∧ o ≤ 11
    · exact k
    · rw [mayE, if_neg k] at h; omega
  have h2 : (okn (kd o.toNat 0) a L && okn (kd o.toNat 1) b L && okn (kd o.toNat 2) c L) = true := by
    rw [mayE, if_pos h1] at h
    split at h
    · assumption
    · omega
  simp only [Bool.and_eq_true] at h2
  obtain ⟨⟨g1, g2⟩, g3⟩ := h2
  refine ⟨h1, ?_, ?_, ?_, ?_, ?_, ?_, ?_⟩
  · rintro rfl; simpa [kd, kdL, okn] using g1
  · rintro rfl; exact ⟨by simpa [kd, kdL, okn] using g1, by simpa [kd, kdL, okn] using g2, by simpa [kd, kdL, okn] using g3⟩
  · rintro (rfl | rfl | rfl) <;> exact ⟨by simpa [kd, kdL, okn] using g1, by simpa [kd, kdL, okn] using g2⟩
  · rintro rfl; simpa [kd, kdL, okn] using g1
  · rintro rfl; exact ⟨by simpa [kd, kdL, okn] using g1, by simpa [kd, kdL, okn] using g2, by simpa [kd, kdL, okn] using g3⟩
  · rintro rfl; simpa [kd, kdL, okn] using g1
  · rintro rfl; exact ⟨by simpa [kd, kdL, okn] using g1, by simpa [kd, kdL, okn] using g2⟩
theorem Pg.ok.ins {p : Pg} (h : p.ok) (z : Int) : InsOk p.L (p.ins z 0) (p.ins z 1) (p.ins z 2) (p.ins z 3) := by
  by_cases k : 0 ≤ z ∧ z < p.L
  · have e : ∀ j, p.ins z j = at4 j (p.A z.toNat) (p.B z.toNat) (p.C z.toNat) (p.D z.toNat) := fun j => by simp only [Pg.ins]; rw [if_pos k]
    rw [e, e, e, e]
    exact insOk_of (h.at_ z.toNat (by omega))
  · have e : ∀ j, p.ins z j = at4 j 11 0 0 0 := fun j => by simp only [Pg.ins]; rw [if_neg k]
    rw [e, e, e, e]
    refine ⟨⟨by decide, by decide⟩, ?_, ?_, ?_, ?_, ?_, ?_, ?_⟩ <;> simp [at4]
/-- The outcomes of Local. -/
noncomputable def locT (I : Nat → Int) : LTree := if I 9 = 1 then tl1 else if I 9 = 2 then (if I 10 = 0 then (if I 11 = 0 then tl2_00 else if I 11 = 1 then tl2_01 else if I 11 = 2 then tl2_02 else tl2_03) else if I 10 = 1 then (if I 11 = 0 then tl2_10 else if I 11 = 1 then tl2_11 else if I 11 = 2 then tl2_12 else tl2_13) else if I 10 = 2 then (if I 11 = 0 then tl2_20 else if I 11 = 1 then tl2_21 else if I 11 = 2 then tl2_22 else tl2_23) else (if I 11 = 0 then tl2_30 else if I 11 = 1 then tl2_31 else if I 11 = 2 then tl2_32 else tl2_33)) else if I 9 = 6 then tl6 else if I 9 = 7 then tl7 else if I 9 = 9 then tl9 else if I 9 = 10 then tl10 else tl0
theorem local_ok {E : Val} {p : Pg} (hp : p.ok) (hE : LocE E p) (h4 : 0 ≤ E.I 4 ∧ E.I 4 ≤ p.L) (hN : ∀ j, j < 7 → blkN E.I ((locT E.I).at E.I).2 j = E.I (30 + j)) (hV : ∀ j, j < 8 → tupN E.I ((locT E.I).at E.I).1 j = E.I (40 + j)) :
    AbsOk Tryd.prog 9 tsY15 E ⟨40, [.ptr 0 0], preP0, [coreN, .abs 7 true], [], locV⟩ := by
  have f8 : E.I 8 = p.L := hE.len
  have le := hp.le
  have i9 : E.I 9 = p.ins (E.I 4) 0 := hE.i0 0 (by omega)
  have i10 : E.I 10 = p.ins (E.I 4) 1 := hE.i0 1 (by omega)
  have i11 : E.I 11 = p.ins (E.I 4) 2 := hE.i0 2 (by omega)
  have i12 : E.I 12 = p.ins (E.I 4) 3 := hE.i0 3 (by omega)
  have ik := hp.ins (E.I 4)
  rw [← i9, ← i10, ← i11, ← i12] at ik
  obtain ⟨ko, k1, k2, k3, k7, k8, k9, k10⟩ := ik
  have seven : ∀ {t : LTree}, (t.all (fun v bs => outUnder 25 v bs && blk7 bs) && t.under 25) = true → blkN E.I (t.at E.I).2 7 = E.I 7 := by
    intro t h
    simp only [Bool.and_eq_true] at h
    have := LTree.all_at (I := E.I) h.1
    simp only [Bool.and_eq_true] at this
    have h7 := this.2
    revert h7
    generalize (t.at E.I).2 = bs
    intro h7
    unfold blk7 at h7
    split at h7
    · rfl
    · cases h7
  by_cases o1 : E.I 9 = 1
  · have e : locT E.I = tl1 := by simp only [locT]; rw [if_pos o1]
    rw [e] at hN hV
    have := k1 o1
    refine local_case okl1 shl1 hE ⟨fun o x y r hm => ?_, fun x y hm => by cases hm⟩ (by omega) hN hV (seven sb1)
    simp only [asmL1, rg, List.cons_append, List.nil_append, List.mem_cons, List.not_mem_nil, or_false, Prod.mk.injEq] at hm
    rcases hm with ⟨rfl, rfl, rfl, rfl⟩ | ⟨rfl, rfl, rfl, rfl⟩ | ⟨rfl, rfl, rfl, rfl⟩ | ⟨rfl, rfl, rfl, rfl⟩ | ⟨rfl, rfl, rfl, rfl⟩ | ⟨rfl, rfl, rfl, rfl⟩ | ⟨rfl, rfl, rfl, rfl⟩
    all_goals first | exact decide_eq_true (by simp only [IE.den]; omega) | exact beq_iff_eq.2 (by simp only [IE.den]; omega) | exact beq_eq_false_iff_ne.2 (by simp only [IE.den]; omega)
  by_cases o2 : E.I 9 = 2
  · have kk := k2 o2
    obtain ⟨ka, kb, kc⟩ := kk
    have ca : E.I 10 = 0 ∨ E.I 10 = 1 ∨ E.I 10 = 2 ∨ E.I 10 = 3 := by omega
    have cb : E.I 11 = 0 ∨ E.I 11 = 1 ∨ E.I 11 = 2 ∨ E.I 11 = 3 := by omega
    rcases ca with ca | ca | ca | ca <;> rcases cb with cb | cb | cb | cb
    · have e : locT E.I = tl2_00 := by simp [locT, o2, ca, cb]
      rw [e] at hN hV
      refine local_case okl2_00 shl2_00 hE ⟨fun o x y r hm => ?_, fun x y hm => by cases hm⟩ (by omega) hN hV (seven sb2_00)
      simp only [asmL2_00, rg, List.cons_append, List.nil_append, List.mem_cons, List.not_mem_nil, or_false, Prod.mk.injEq] at hm
      rcases hm with ⟨rfl, rfl, rfl, rfl⟩ | ⟨rfl, rfl, rfl, rfl⟩ | ⟨rfl, rfl, rfl, rfl⟩ | ⟨rfl, rfl, rfl, rfl⟩ | ⟨rfl, rfl, rfl, rfl⟩ | ⟨rfl, rfl, rfl, rfl⟩ | ⟨rfl, rfl, rfl, rfl⟩ | ⟨rfl, rfl, rfl, rfl⟩ | ⟨rfl, rfl, rfl, rfl⟩
      all_goals first | exact decide_eq_true (by simp only [IE.den]; omega) | exact beq_iff_eq.2 (by simp only [IE.den]; omega) | exact beq_eq_false_iff_ne.2 (by simp only [IE.den]; omega)
    · have e : locT E.I = tl2_01 := by simp [locT, o2, ca, cb]
      rw [e] at hN hV
      refine local_case okl2_01 shl2_01 hE ⟨fun o x y r hm => ?_, fun x y hm => by cases hm⟩ (by omega) hN hV (seven sb2_01)
      simp only [asmL2_01, rg, List.cons_append, List.nil_append, List.mem_cons, List.not_mem_nil, or_false, Prod.mk.injEq] at hm
      rcases hm with ⟨rfl, rfl, rfl, rfl⟩ | ⟨rfl, rfl, rfl, rfl⟩ | ⟨rfl, rfl, rfl, rfl⟩ | ⟨rfl, rfl, rfl, rfl⟩ | ⟨rfl, rfl, rfl, rfl⟩ | ⟨rfl, rfl, rfl, rfl⟩ | ⟨rfl, rfl, rfl, rfl⟩ | ⟨rfl, rfl, rfl, rfl⟩ | ⟨rfl, rfl, rfl, rfl⟩
      all_goals first | exact decide_eq_true (by simp only [IE.den]; omega) | exact beq_iff_eq.2 (by simp only [IE.den]; omega) | exact beq_eq_false_iff_ne.2 (by simp only [IE.den]; omega)
    · have e : locT E.I = tl2_02 := by simp [locT, o2, ca, cb]
      rw [e] at hN hV
      refine local_case okl2_02 shl2_02 hE ⟨fun o x y r hm => ?_, fun x y hm => by cases hm⟩ (by omega) hN hV (seven sb2_02)
      simp only [asmL2_02, rg, List.cons_append, List.nil_append, List.mem_cons, List.not_mem_nil, or_false, Prod.mk.injEq] at hm
      rcases hm with ⟨rfl, rfl, rfl, rfl⟩ | ⟨rfl, rfl, rfl, rfl⟩ | ⟨rfl, rfl, rfl, rfl⟩ | ⟨rfl, rfl, rfl, rfl⟩ | ⟨rfl, rfl, rfl, rfl⟩ | ⟨rfl, rfl, rfl, rfl⟩ | ⟨rfl, rfl, rfl, rfl⟩ | ⟨rfl, rfl, rfl, rfl⟩ | ⟨rfl, rfl, rfl, rfl⟩
      all_goals first | exact decide_eq_true (by simp only [IE.den]; omega) | exact beq_iff_eq.2 (by simp only [IE.den]; omega) | exact beq_eq_false_iff_ne.2 (by simp only [IE.den]; omega)
    · have e : locT E.I = tl2_03 := by simp [locT, o2, ca, cb]
      rw [e] at hN hV
      refine local_case okl2_03 shl2_03 hE ⟨fun o x y r hm => ?_, fun x y hm => by cases hm⟩ (by omega) hN hV (seven sb2_03)
      simp only [asmL2_03, rg, List.cons_append, List.nil_append, List.mem_cons, List.not_mem_nil, or_false, Prod.mk.injEq] at hm
      rcases hm with ⟨rfl, rfl, rfl, rfl⟩ | ⟨rfl, rfl, rfl, rfl⟩ | ⟨rfl, rfl, rfl, rfl⟩ | ⟨rfl, rfl, rfl, rfl⟩ | ⟨rfl, rfl, rfl, rfl⟩ | ⟨rfl, rfl, rfl, rfl⟩ | ⟨rfl, rfl, rfl, rfl⟩ | ⟨rfl, rfl, rfl, rfl⟩ | ⟨rfl, rfl, rfl, rfl⟩
      all_goals first | exact decide_eq_true (by simp only [IE.den]; omega) | exact beq_iff_eq.2 (by simp only [IE.den]; omega) | exact beq_eq_false_iff_ne.2 (by simp only [IE.den]; omega)
    · have e : locT E.I = tl2_10 := by simp [locT, o2, ca, cb]
      rw [e] at hN hV
      refine local_case okl2_10 shl2_10 hE ⟨fun o x y r hm => ?_, fun x y hm => by cases hm⟩ (by omega) hN hV (seven sb2_10)
      simp only [asmL2_10, rg, List.cons_append, List.nil_append, List.mem_cons, List.not_mem_nil, or_false, Prod.mk.injEq] at hm
      rcases hm with ⟨rfl, rfl, rfl, rfl⟩ | ⟨rfl, rfl, rfl, rfl⟩ | ⟨rfl, rfl, rfl, rfl⟩ | ⟨rfl, rfl, rfl, rfl⟩ | ⟨rfl, rfl, rfl, rfl⟩ | ⟨rfl, rfl, rfl, rfl⟩ | ⟨rfl, rfl, rfl, rfl⟩ | ⟨rfl, rfl, rfl, rfl⟩ | ⟨rfl, rfl, rfl, rfl⟩
      all_goals first | exact decide_eq_true (by simp only [IE.den]; omega) | exact beq_iff_eq.2 (by simp only [IE.den]; omega) | exact beq_eq_false_iff_ne.2 (by simp only [IE.den]; omega)
    · have e : locT E.I = tl2_11 := by simp [locT, o2, ca, cb]
      rw [e] at hN hV
      refine local_case okl2_11 shl2_11 hE ⟨fun o x y r hm => ?_, fun x y hm => by cases hm⟩ (by omega) hN hV (seven sb2_11)
      simp only [asmL2_11, rg, List.cons_append, List.nil_append, List.mem_cons, List.not_mem_nil, or_false, Prod.mk.injEq] at hm
      rcases hm with ⟨rfl, rfl, rfl, rfl⟩ | ⟨rfl, rfl, rfl, rfl⟩ | ⟨rfl, rfl, rfl, rfl⟩ | ⟨rfl, rfl, rfl, rfl⟩ | ⟨rfl, rfl, rfl, rfl⟩ | ⟨rfl, rfl, rfl, rfl⟩ | ⟨rfl, rfl, rfl, rfl⟩ | ⟨rfl, rfl, rfl, rfl⟩ | ⟨rfl, rfl, rfl, rfl⟩
      all_goals first | exact decide_eq_true (by simp only [IE.den]; omega) | exact beq_iff_eq.2 (by simp only [IE.den]; omega) | exact beq_eq_false_iff_ne.2 (by simp only [IE.den]; omega)
    · have e : locT E.I = tl2_12 := by simp [locT, o2, ca, cb]
      rw [e] at hN hV
      refine local_case okl2_12 shl2_12 hE ⟨fun o x y r hm => ?_, fun x y hm => by cases hm⟩ (by omega) hN hV (seven sb2_12)
      simp only [asmL2_12, rg, List.cons_append, List.nil_append, List.mem_cons, List.not_mem_nil, or_false, Prod.mk.injEq] at hm
      rcases hm with ⟨rfl, rfl, rfl, rfl⟩ | ⟨rfl, rfl, rfl, rfl⟩ | ⟨rfl, rfl, rfl, rfl⟩ | ⟨rfl, rfl, rfl, rfl⟩ | ⟨rfl, rfl, rfl, rfl⟩ | ⟨rfl, rfl, rfl, rfl⟩ | ⟨rfl, rfl, rfl, rfl⟩ | ⟨rfl, rfl, rfl, rfl⟩ | ⟨rfl, rfl, rfl, rfl⟩
      all_goals first | exact decide_eq_true (by simp only [IE.den]; omega) | exact beq_iff_eq.2 (by simp only [IE.den]; omega) | exact beq_eq_false_iff_ne.2 (by simp only [IE.den]; omega)
    · have e : locT E.I = tl2_13 := by simp [locT, o2, ca, cb]
      rw [e] at hN hV
      refine local_case okl2_13 shl2_13 hE ⟨fun o x y r hm => ?_, fun x y hm => by cases hm⟩ (by omega) hN hV (seven sb2_13)
      simp only [asmL2_13, rg, List.cons_append, List.nil_append, List.mem_cons, List.not_mem_nil, or_false, Prod.mk.injEq] at hm
      rcases hm with ⟨rfl, rfl, rfl, rfl⟩ | ⟨rfl, rfl, rfl, rfl⟩ | ⟨rfl, rfl, rfl, rfl⟩ | ⟨rfl, rfl, rfl, rfl⟩ | ⟨rfl, rfl, rfl, rfl⟩ | ⟨rfl, rfl, rfl, rfl⟩ | ⟨rfl, rfl, rfl, rfl⟩ | ⟨rfl, rfl, rfl, rfl⟩ | ⟨rfl, rfl, rfl, rfl⟩
      all_goals first | exact decide_eq_true (by simp only [IE.den]; omega) | exact beq_iff_eq.2 (by simp only [IE.den]; omega) | exact beq_eq_false_iff_ne.2 (by simp only [IE.den]; omega)
    · have e : locT E.I = tl2_20 := by simp [locT, o2, ca, cb]
      rw [e] at hN hV
      refine local_case okl2_20 shl2_20 hE ⟨fun o x y r hm => ?_, fun x y hm => by cases hm⟩ (by omega) hN hV (seven sb2_20)
      simp only [asmL2_20, rg, List.cons_append, List.nil_append, List.mem_cons, List.not_mem_nil, or_false, Prod.mk.injEq] at hm
      rcases hm with ⟨rfl, rfl, rfl, rfl⟩ | ⟨rfl, rfl, rfl, rfl⟩ | ⟨rfl, rfl, rfl, rfl⟩ | ⟨rfl, rfl, rfl, rfl⟩ | ⟨rfl, rfl, rfl, rfl⟩ | ⟨rfl, rfl, rfl, rfl⟩ | ⟨rfl, rfl, rfl, rfl⟩ | ⟨rfl, rfl, rfl, rfl⟩ | ⟨rfl, rfl, rfl, rfl⟩
      all_goals first | exact decide_eq_true (by simp only [IE.den]; omega) | exact beq_iff_eq.2 (by simp only [IE.den]; omega) | exact beq_eq_false_iff_ne.2 (by simp only [IE.den]; omega)
    · have e : locT E.I = tl2_21 := by simp [locT, o2, ca, cb]
      rw [e] at hN hV
      refine local_case okl2_21 shl2_21 hE ⟨fun o x y r hm => ?_, fun x y hm => by cases hm⟩ (by omega) hN hV (seven sb2_21)
      simp only [asmL2_21, rg, List.cons_append, List.nil_append, List.mem_cons, List.not_mem_nil, or_false, Prod.mk.injEq] at hm
      rcases hm with ⟨rfl, rfl, rfl, rfl⟩ | ⟨rfl, rfl, rfl, rfl⟩ | ⟨rfl, rfl, rfl, rfl⟩ | ⟨rfl, rfl, rfl, rfl⟩ | ⟨rfl, rfl, rfl, rfl⟩ | ⟨rfl, rfl, rfl, rfl⟩ | ⟨rfl, rfl, rfl, rfl⟩ | ⟨rfl, rfl, rfl, rfl⟩ | ⟨rfl, rfl, rfl, rfl⟩
      all_goals first | exact decide_eq_true (by simp only [IE.den]; omega) | exact beq_iff_eq.2 (by simp only [IE.den]; omega) | exact beq_eq_false_iff_ne.2 (by simp only [IE.den]; omega)
    · have e : locT E.I = tl2_22 := by simp [locT, o2, ca, cb]
      rw [e] at hN hV
      refine local_case okl2_22 shl2_22 hE ⟨fun o x y r hm => ?_, fun x y hm => by cases hm⟩ (by omega) hN hV (seven sb2_22)
      simp only [asmL2_22, rg, List.cons_append, List.nil_append, List.mem_cons, List.not_mem_nil, or_false, Prod.mk.injEq] at hm
      rcases hm with ⟨rfl, rfl, rfl, rfl⟩ | ⟨rfl, rfl, rfl, rfl⟩ | ⟨rfl, rfl, rfl, rfl⟩ | ⟨rfl, rfl, rfl, rfl⟩ | ⟨rfl, rfl, rfl, rfl⟩ | ⟨rfl, rfl, rfl, rfl⟩ | ⟨rfl, rfl, rfl, rfl⟩ | ⟨rfl, rfl, rfl, rfl⟩ | ⟨rfl, rfl, rfl, rfl⟩
      all_goals first | exact decide_eq_true (by simp only [IE.den]; omega) | exact beq_iff_eq.2 (by simp only [IE.den]; omega) | exact beq_eq_false_iff_ne.2 (by simp only [IE.den]; omega)
    · have e : locT E.I = tl2_23 := by simp [locT, o2, ca, cb]
      rw [e] at hN hV
      refine local_case okl2_23 shl2_23 hE ⟨fun o x y r hm => ?_, fun x y hm => by cases hm⟩ (by omega) hN hV (seven sb2_23)
      simp only [asmL2_23, rg, List.cons_append, List.nil_append, List.mem_cons, List.not_mem_nil, or_false, Prod.mk.injEq] at hm
      rcases hm with ⟨rfl, rfl, rfl, rfl⟩ | ⟨rfl, rfl, rfl, rfl⟩ | ⟨rfl, rfl, rfl, rfl⟩ | ⟨rfl, rfl, rfl, rfl⟩ | ⟨rfl, rfl, rfl, rfl⟩ | ⟨rfl, rfl, rfl, rfl⟩ | ⟨rfl, rfl, rfl, rfl⟩ | ⟨rfl, rfl, rfl, rfl⟩ | ⟨rfl, rfl, rfl, rfl⟩
      all_goals first | exact decide_eq_true (by simp only [IE.den]; omega) | exact beq_iff_eq.2 (by simp only [IE.den]; omega) | exact beq_eq_false_iff_ne.2 (by simp only [IE.den]; omega)
    · have e : locT E.I = tl2_30 := by simp [locT, o2, ca, cb]
      rw [e] at hN hV
      refine local_case okl2_30 shl2_30 hE ⟨fun o x y r hm => ?_, fun x y hm => by cases hm⟩ (by omega) hN hV (seven sb2_30)
      simp only [asmL2_30, rg, List.cons_append, List.nil_append, List.mem_cons, List.not_mem_nil, or_false, Prod.mk.injEq] at hm
      rcases hm with ⟨rfl, rfl, rfl, rfl⟩ | ⟨rfl, rfl, rfl, rfl⟩ | ⟨rfl, rfl, rfl, rfl⟩ | ⟨rfl, rfl, rfl, rfl⟩ | ⟨rfl, rfl, rfl, rfl⟩ | ⟨rfl, rfl, rfl, rfl⟩ | ⟨rfl, rfl, rfl, rfl⟩ | ⟨rfl, rfl, rfl, rfl⟩ | ⟨rfl, rfl, rfl, rfl⟩
      all_goals first | exact decide_eq_true (by simp only [IE.den]; omega) | exact beq_iff_eq.2 (by simp only [IE.den]; omega) | exact beq_eq_false_iff_ne.2 (by simp only [IE.den]; omega)
    · have e : locT E.I = tl2_31 := by simp [locT, o2, ca, cb]
      rw [e] at hN hV
      refine local_case okl2_31 shl2_31 hE ⟨fun o x y r hm => ?_, fun x y hm => by cases hm⟩ (by omega) hN hV (seven sb2_31)
      simp only [asmL2_31, rg, List.cons_append, List.nil_append, List.mem_cons, List.not_mem_nil, or_false, Prod.mk.injEq] at hm
      rcases hm with ⟨rfl, rfl, rfl, rfl⟩ | ⟨rfl, rfl, rfl, rfl⟩ | ⟨rfl, rfl, rfl, rfl⟩ | ⟨rfl, rfl, rfl, rfl⟩ | ⟨rfl, rfl, rfl, rfl⟩ | ⟨rfl, rfl, rfl, rfl⟩ | ⟨rfl, rfl, rfl, rfl⟩ | ⟨rfl, rfl, rfl, rfl⟩ | ⟨rfl, rfl, rfl, rfl⟩
      all_goals first | exact decide_eq_true (by simp only [IE.den]; omega) | exact beq_iff_eq.2 (by simp only [IE.den]; omega) | exact beq_eq_false_iff_ne.2 (by simp only [IE.den]; omega)
    · have e : locT E.I = tl2_32 := by simp [locT, o2, ca, cb]
      rw [e] at hN hV
      refine local_case okl2_32 shl2_32 hE ⟨fun o x y r hm => ?_, fun x y hm => by cases hm⟩ (by omega) hN hV (seven sb2_32)
      simp only [asmL2_32, rg, List.cons_append, List.nil_append, List.mem_cons, List.not_mem_nil, or_false, Prod.mk.injEq] at hm
      rcases hm with ⟨rfl, rfl, rfl, rfl⟩ | ⟨rfl, rfl, rfl, rfl⟩ | ⟨rfl, rfl, rfl, rfl⟩ | ⟨rfl, rfl, rfl, rfl⟩ | ⟨rfl, rfl, rfl, rfl⟩ | ⟨rfl, rfl, rfl, rfl⟩ | ⟨rfl, rfl, rfl, rfl⟩ | ⟨rfl, rfl, rfl, rfl⟩ | ⟨rfl, rfl, rfl, rfl⟩
      all_goals first | exact decide_eq_true (by simp only [IE.den]; omega) | exact beq_iff_eq.2 (by simp only [IE.den]; omega) | exact beq_eq_false_iff_ne.2 (by simp only [IE.den]; omega)
    · have e : locT E.I = tl2_33 := by simp [locT, o2, ca, cb]
      rw [e] at hN hV
      refine local_case okl2_33 shl2_33 hE ⟨fun o x y r hm => ?_, fun x y hm => by cases hm⟩ (by omega) hN hV (seven sb2_33)
      simp only [asmL2_33, rg, List.cons_append, List.nil_append, List.mem_cons, List.not_mem_nil, or_false, Prod.mk.injEq] at hm
      rcases hm with ⟨rfl, rfl, rfl, rfl⟩ | ⟨rfl, rfl, rfl, rfl⟩ | ⟨rfl, rfl, rfl, rfl⟩ | ⟨rfl, rfl, rfl, rfl⟩ | ⟨rfl, rfl, rfl, rfl⟩ | ⟨rfl, rfl, rfl, rfl⟩ | ⟨rfl, rfl, rfl, rfl⟩ | ⟨rfl, rfl, rfl, rfl⟩ | ⟨rfl, rfl, rfl, rfl⟩
      all_goals first | exact decide_eq_true (by simp only [IE.den]; omega) | exact beq_iff_eq.2 (by simp only [IE.den]; omega) | exact beq_eq_false_iff_ne.2 (by simp only [IE.den]; omega)
  by_cases o6 : E.I 9 = 6
  · have e : locT E.I = tl6 := by simp [locT, o6]
    rw [e] at hN hV
    refine local_case okl6 shl6 hE ⟨fun o x y r hm => ?_, fun x y hm => by cases hm⟩ (by omega) hN hV (seven sb6)
    simp only [asmL6, rg, List.cons_append, List.nil_append, List.mem_cons, List.not_mem_nil, or_false, Prod.mk.injEq] at hm
    rcases hm with ⟨rfl, rfl, rfl, rfl⟩ | ⟨rfl, rfl, rfl, rfl⟩ | ⟨rfl, rfl, rfl, rfl⟩ | ⟨rfl, rfl, rfl, rfl⟩ | ⟨rfl, rfl, rfl, rfl⟩
    all_goals first | exact decide_eq_true (by simp only [IE.den]; omega) | exact beq_iff_eq.2 (by simp only [IE.den]; omega) | exact beq_eq_false_iff_ne.2 (by simp only [IE.den]; omega)
  by_cases o7 : E.I 9 = 7
  · have e : locT E.I = tl7 := by simp [locT, o7]
    rw [e] at hN hV
    have kk := k7 o7
    refine local_case okl7 shl7 hE ⟨fun o x y r hm => ?_, fun x y hm => by cases hm⟩ (by omega) hN hV (seven sb7)
    simp only [asmL7, rg, List.cons_append, List.nil_append, List.mem_cons, List.not_mem_nil, or_false, Prod.mk.injEq] at hm
    rcases hm with ⟨rfl, rfl, rfl, rfl⟩ | ⟨rfl, rfl, rfl, rfl⟩ | ⟨rfl, rfl, rfl, rfl⟩ | ⟨rfl, rfl, rfl, rfl⟩ | ⟨rfl, rfl, rfl, rfl⟩ | ⟨rfl, rfl, rfl, rfl⟩ | ⟨rfl, rfl, rfl, rfl⟩
    all_goals first | exact decide_eq_true (by simp only [IE.den]; omega) | exact beq_iff_eq.2 (by simp only [IE.den]; omega) | exact beq_eq_false_iff_ne.2 (by simp only [IE.den]; omega)
  by_cases o9 : E.I 9 = 9
  · have e : locT E.I = tl9 := by simp [locT, o9]
    rw [e] at hN hV
    have kk := k9 o9
    refine local_case okl9 shl9 hE ⟨fun o x y r hm => ?_, fun x y hm => by cases hm⟩ (by omega) hN hV (seven sb9)
    simp only [asmL9, rg, List.cons_append, List.nil_append, List.mem_cons, List.not_mem_nil, or_false, Prod.mk.injEq] at hm
    rcases hm with ⟨rfl, rfl, rfl, rfl⟩ | ⟨rfl, rfl, rfl, rfl⟩ | ⟨rfl, rfl, rfl, rfl⟩ | ⟨rfl, rfl, rfl, rfl⟩ | ⟨rfl, rfl, rfl, rfl⟩ | ⟨rfl, rfl, rfl, rfl⟩ | ⟨rfl, rfl, rfl, rfl⟩
    all_goals first | exact decide_eq_true (by simp only [IE.den]; omega) | exact beq_iff_eq.2 (by simp only [IE.den]; omega) | exact beq_eq_false_iff_ne.2 (by simp only [IE.den]; omega)
  by_cases o10 : E.I 9 = 10
  · have e : locT E.I = tl10 := by simp [locT, o10]
    rw [e] at hN hV
    have kk := k10 o10
    refine local_case okl10 shl10 hE ⟨fun o x y r hm => ?_, fun x y hm => by cases hm⟩ (by omega) hN hV (seven sb10)
    simp only [asmL10, rg, List.cons_append, List.nil_append, List.mem_cons, List.not_mem_nil, or_false, Prod.mk.injEq] at hm
    rcases hm with ⟨rfl, rfl, rfl, rfl⟩ | ⟨rfl, rfl, rfl, rfl⟩ | ⟨rfl, rfl, rfl, rfl⟩ | ⟨rfl, rfl, rfl, rfl⟩ | ⟨rfl, rfl, rfl, rfl⟩ | ⟨rfl, rfl, rfl, rfl⟩ | ⟨rfl, rfl, rfl, rfl⟩ | ⟨rfl, rfl, rfl, rfl⟩ | ⟨rfl, rfl, rfl, rfl⟩
    all_goals first | exact decide_eq_true (by simp only [IE.den]; omega) | exact beq_iff_eq.2 (by simp only [IE.den]; omega) | exact beq_eq_false_iff_ne.2 (by simp only [IE.den]; omega)
  have e : locT E.I = tl0 := by simp [locT, o1, o2, o6, o7, o9, o10]
  rw [e] at hN hV
  refine local_case okl0 shl0 hE ⟨fun o x y r hm => ?_, fun x y hm => by cases hm⟩ (by omega) hN hV (seven sb0)
  simp only [asmL0, rg, List.cons_append, List.nil_append, List.mem_cons, List.not_mem_nil, or_false, Prod.mk.injEq] at hm
  rcases hm with ⟨rfl, rfl, rfl, rfl⟩ | ⟨rfl, rfl, rfl, rfl⟩ | ⟨rfl, rfl, rfl, rfl⟩ | ⟨rfl, rfl, rfl, rfl⟩ | ⟨rfl, rfl, rfl, rfl⟩ | ⟨rfl, rfl, rfl, rfl⟩ | ⟨rfl, rfl, rfl, rfl⟩ | ⟨rfl, rfl, rfl, rfl⟩ | ⟨rfl, rfl, rfl, rfl⟩ | ⟨rfl, rfl, rfl, rfl⟩ | ⟨rfl, rfl, rfl, rfl⟩ | ⟨rfl, rfl, rfl, rfl⟩
  all_goals first | exact decide_eq_true (by simp only [IE.den]; omega) | exact beq_iff_eq.2 (by simp only [IE.den]; omega) | exact beq_eq_false_iff_ne.2 (by simp only [IE.den]; omega)
end Go.Proofs.YtfiangiajhdhcaaDoor
