/- NoteMore: what its calls answer together. No condition. -/
import Derived.Test.YtpabnkbpklggnaaDoorNG
import Derived.KernelRfl
namespace Go.Proofs.YtpabnkbpklggnaaDoor
open Go.RowKit
set_option linter.unusedVariables false
set_option maxRecDepth 100000

noncomputable def ij (n : Int) : SV := .int .i64 (.lit n)
abbrev Rg := List (BinOp × IE × IE × Bool) × IE
noncomputable def rgA (j : Nat) (b : Int) : Rg := ([(.lss, .at j, .lit b, false)], .lit b)
noncomputable def rgB (j : Nat) (b : Int) : Rg := ([(.gtr, .at j, .lit 0, true), (.lss, .at j, .lit b, true)], .at j)
noncomputable def rgC (j : Nat) (b : Int) : Rg := ([(.gtr, .at j, .lit 0, false), (.lss, .at j, .lit b, true)], .lit 0)
noncomputable def mkA (q0 q1 : Rg) : Asm := { cmps := q0.1 ++ (q1.1 ++ (rangeAsm 19).cmps), eqs := [(.bin .add .i64 (.at 0) q0.2, (.bin .add .i64 (.at 0) (.at 17))), (.bin .add .i64 (.at 1) q1.2, (.bin .add .i64 (.at 1) (.at 18)))] }
theorem mkA_ok {I : Nat → Int} (h : (rangeAsm 19).Holds I) {q0 q1 : Rg} (h0 : ∀ x ∈ q0.1, cmpD x.1 (x.2.1.den I) (x.2.2.1.den I) = x.2.2.2) (h1 : ∀ x ∈ q1.1, cmpD x.1 (x.2.1.den I) (x.2.2.1.den I) = x.2.2.2) (e0 : q0.2.den I = I 17) (e1 : q1.2.den I = I 18) : (mkA q0 q1).Holds I := by
  refine ⟨fun o x y r hm => ?_, fun x y hm => ?_⟩
  · simp only [mkA, List.mem_append] at hm
    rcases hm with hm | hm | hm
    · exact h0 _ hm
    · exact h1 _ hm
    · exact h.cmps _ _ _ _ hm
  · simp only [mkA, List.mem_cons, List.not_mem_nil, or_false, Prod.mk.injEq] at hm
    rcases hm with ⟨rfl, rfl⟩ | ⟨rfl, rfl⟩
    · simp only [IE.den, e0]
    · simp only [IE.den, e1]
theorem rg_ok {I : Nat → Int} {j : Nat} {b : Int} (hb : 0 < b) : ∃ q : Rg, (q = rgA j b ∨ q = rgB j b ∨ q = rgC j b) ∧ (∀ x ∈ q.1, cmpD x.1 (x.2.1.den I) (x.2.2.1.den I) = x.2.2.2) ∧ q.2.den I = max 0 (min b (I j)) := by
  by_cases h1 : I j < b
  · by_cases h2 : I j > 0
    · refine ⟨_, .inr (.inl rfl), fun x hx => ?_, ?_⟩
      · simp only [rgB, List.mem_cons, List.not_mem_nil, or_false] at hx
        rcases hx with rfl | rfl
        · exact decide_eq_true h2
        · exact decide_eq_true h1
      · simp only [rgB, IE.den]; omega
    · refine ⟨_, .inr (.inr rfl), fun x hx => ?_, ?_⟩
      · simp only [rgC, List.mem_cons, List.not_mem_nil, or_false] at hx
        rcases hx with rfl | rfl
        · exact decide_eq_false h2
        · exact decide_eq_true h1
      · simp only [rgC, IE.den]; omega
  · refine ⟨_, .inl rfl, fun x hx => ?_, ?_⟩
    · simp only [rgA, List.mem_cons, List.not_mem_nil, or_false] at hx
      subst hx
      exact decide_eq_false h1
    · simp only [rgA, IE.den]; omega
noncomputable def sD : Nat → IE := sOf [(.bin .add .i64 (.at 0) (.at 17)), (.bin .add .i64 (.at 1) (.at 18)), .at 2, .at 3, .at 4, .at 5, .at 6, .at 7, .at 8, .at 9, .at 10, .at 11, .at 12, .at 13, .at 14]
theorem wrap_i64 (x : Int) : -9223372036854775808 ≤ IntKind.i64.wrap x ∧ IntKind.i64.wrap x ≤ 9223372036854775807 := by
  simp only [IntKind.wrap, IntKind.bits, IntKind.signed]
  simp
  split <;> omega
noncomputable def IE.smallP : IE → Bool
  | .bin .add .i64 _ _ => true
  | e => e.small
theorem smallP_range {I : Nat → Int} (h : ∀ i, -9223372036854775808 ≤ I i ∧ I i ≤ 9223372036854775807) {e : IE} (k : e.smallP = true) : -9223372036854775808 ≤ e.den I ∧ e.den I ≤ 9223372036854775807 := by
  unfold IE.smallP at k
  split at k
  · exact wrap_i64 _
  · exact small_range h k
theorem sD_range {I : Nat → Int} (h : ∀ i, -9223372036854775808 ≤ I i ∧ I i ≤ 9223372036854775807) (i : Nat) : -9223372036854775808 ≤ (sD i).den I ∧ (sD i).den I ≤ 9223372036854775807 := by
  have hl : ([(.bin .add .i64 (.at 0) (.at 17)), (.bin .add .i64 (.at 1) (.at 18)), .at 2, .at 3, .at 4, .at 5, .at 6, .at 7, .at 8, .at 9, .at 10, .at 11, .at 12, .at 13, .at 14] : List IE).all IE.smallP = true := by kernel_rfl
  simp only [sD, sOf, List.getD_eq_getElem?_getD]
  generalize ([(.bin .add .i64 (.at 0) (.at 17)), (.bin .add .i64 (.at 1) (.at 18)), .at 2, .at 3, .at 4, .at 5, .at 6, .at 7, .at 8, .at 9, .at 10, .at 11, .at 12, .at 13, .at 14] : List IE) = L at hl ⊢
  cases e : L[i]? with
  | none => simp [IE.den]
  | some x => exact smallP_range h (List.all_eq_true.1 hl x (List.mem_of_getElem? e))
noncomputable def cfNM : SV := .agg [.int .i64 (.at 0), .int .i64 (.at 1), .int .i64 (.at 2), .int .i64 (.at 3), .int .i64 (.at 4), .int .i64 (.at 5), .int .i64 (.at 6)]
noncomputable def cdNM : SV := .agg [.int .i64 (.bin .add .i64 (.at 0) (.at 17)), .int .i64 (.bin .add .i64 (.at 1) (.at 18)), .int .i64 (.at 2), .int .i64 (.at 3), .int .i64 (.at 4), .int .i64 (.at 5), .int .i64 (.at 6)]
noncomputable def moNM : SV := .agg [.int .i64 (.at 15), .int .i64 (.at 16)]
noncomputable def pairs : List (List SV) := [[ij 0, ij 0], [ij 0, ij 10], [ij 10, ij 10], [ij 15, ij 15]]
noncomputable def apartB : Asm := { cmps := [(.geq, .at 17, .lit 0, true), (.leq, .at 17, .lit 3, true), (.geq, .at 18, .lit 0, true), (.leq, .at 18, .lit 15, true)] }
theorem apartB_ok {I : Nat → Int} (h17 : 0 ≤ I 17 ∧ I 17 ≤ 3) (h18 : 0 ≤ I 18 ∧ I 18 ≤ 15) : apartB.Holds I := by
  refine ⟨fun o x y r hm => ?_, fun x y hm => by cases hm⟩
  simp only [apartB, List.mem_cons, List.not_mem_nil, or_false, Prod.mk.injEq] at hm
  rcases hm with ⟨rfl, rfl, rfl, rfl⟩ | ⟨rfl, rfl, rfl, rfl⟩ | ⟨rfl, rfl, rfl, rfl⟩ | ⟨rfl, rfl, rfl, rfl⟩
  · exact decide_eq_true h17.1
  · exact decide_eq_true h17.2
  · exact decide_eq_true h18.1
  · exact decide_eq_true h18.2
noncomputable def pairsK : List (List SV) := [[ij 15, ij 15]]
theorem wf_small {x : Int} (h : 0 ≤ x) (k : x ≤ 15) : (Lit.int .i64 x).wf = true := by
  simp only [Lit.wf, IntKind.min, IntKind.max, IntKind.bits, IntKind.signed]
  simp
  omega
noncomputable def ntNM0 : SV := .agg [.int .i64 (.at 7), .int .i64 (.at 8), .int .i64 (.at 9), .int .i64 (.at 10), .int .i64 (.at 11), .int .i64 (.at 12), .int .i64 (.at 13), .bool false, .int .i64 (.at 14)]
noncomputable def runNM0 (A : Asm) (l : List LetC) : Bool := isTrueR ((rk ⟨Tryd.prog, A, 5⟩ ((letBase tsY03 l).or (B3 A)) 3000).call 6 [cfNM, ntNM0, moNM] (tabHeap tsY03) 5)
noncomputable def letsNM0 (x y : SV) : List LetC := [⟨11, [cfNM], .bool true⟩, ⟨11, [cdNM], .bool true⟩, ⟨12, [cfNM, ntNM0], x⟩, ⟨12, [cdNM, ntNM0], y⟩]
noncomputable def runA0 (q0 q1 : Rg) : Bool := (runNM0 (mkA q0 q1) [⟨11, [cfNM], .bool false⟩] && runNM0 (mkA q0 q1) [⟨11, [cfNM], .bool true⟩, ⟨11, [cdNM], .bool false⟩]) && (runNM0 (mkA q0 q1) (letsNM0 (ij 10) (ij 10)) && runNM0 (mkA q0 q1) (letsNM0 (ij 15) (ij 15)))
noncomputable def runK0 (q0 q1 : Rg) (k : Nat) : Bool := runNM0 ((mkA q0 q1).add .eql (.at 7) (.lit k) true) (letsNM0 (ij 0) (ij 0)) && runNM0 ((mkA q0 q1).add .eql (.at 7) (.lit k) true) (letsNM0 (ij 10) (ij 0))
noncomputable def runQ0 (q0 : Rg) (q1 : Rg) : Bool := runA0 q0 q1 && [1, 2, 3, 4, 5, 6, 7, 8, 9, 10, 11, 12, 13].all fun k => runK0 q0 q1 k
/-- More cores and granules: what may be, may be still. -/
noncomputable def moreB0 (S : List (List SV)) (A : Asm) : Bool := atM1.each sId (fun A v => SV.beq v (.bool false) || atM1.each sD (fun A v => SV.beq v (.bool false) || atC0.each sId (fun A x => atC0.each sD (fun _ y => inSet S [y, x]) A) A) A) A
theorem moreB0_ok {S : List (List SV)} {A : Asm} {I : Nat → Int} (h : moreB0 S A = true) (hA : A.Holds I) (h1 : atM1.at (fun i => (sId i).den I) = .bool true) (h2 : atM1.at (fun i => (sD i).den I) = .bool true) : inSet S [atC0.at (fun i => (sD i).den I), atC0.at (fun i => (sId i).den I)] = true := by
  obtain ⟨A1, hA1, k1⟩ := ATree.each_ok sId hA h
  rw [h1] at k1
  have k1' : atM1.each sD (fun A v => SV.beq v (.bool false) || atC0.each sId (fun A x => atC0.each sD (fun _ y => inSet S [y, x]) A) A) A1 = true := by simpa [SV.beq] using k1
  obtain ⟨A2, hA2, k2⟩ := ATree.each_ok sD hA1 k1'
  rw [h2] at k2
  have k2' : atC0.each sId (fun A x => atC0.each sD (fun _ y => inSet S [y, x]) A) A2 = true := by simpa [SV.beq] using k2
  obtain ⟨A3, hA3, k3⟩ := ATree.each_ok sId hA2 k2'
  obtain ⟨A4, hA4, k4⟩ := ATree.each_ok sD hA3 k3
  exact k4
theorem moreL0 : moreB0 pairsK (apartB.add .lss (.at 7) (.lit 1) true) = true := by kernel_rfl
theorem moreG0 : moreB0 pairsK (apartB.add .gtr (.at 7) (.lit 13) true) = true := by kernel_rfl
theorem more0_1 : moreB0 pairs (apartB.add .eql (.at 7) (.lit 1) true) = true := by kernel_rfl
theorem more0_2 : moreB0 pairs (apartB.add .eql (.at 7) (.lit 2) true) = true := by kernel_rfl
theorem more0_3 : moreB0 pairs (apartB.add .eql (.at 7) (.lit 3) true) = true := by kernel_rfl
theorem more0_4 : moreB0 pairs (apartB.add .eql (.at 7) (.lit 4) true) = true := by kernel_rfl
theorem more0_5 : moreB0 pairs (apartB.add .eql (.at 7) (.lit 5) true) = true := by kernel_rfl
theorem more0_6 : moreB0 pairs (apartB.add .eql (.at 7) (.lit 6) true) = true := by kernel_rfl
theorem more0_7 : moreB0 pairs (apartB.add .eql (.at 7) (.lit 7) true) = true := by kernel_rfl
theorem more0_8 : moreB0 pairs (apartB.add .eql (.at 7) (.lit 8) true) = true := by kernel_rfl
theorem more0_9 : moreB0 pairs (apartB.add .eql (.at 7) (.lit 9) true) = true := by kernel_rfl
theorem more0_10 : moreB0 pairs (apartB.add .eql (.at 7) (.lit 10) true) = true := by kernel_rfl
theorem more0_11 : moreB0 pairs (apartB.add .eql (.at 7) (.lit 11) true) = true := by kernel_rfl
theorem more0_12 : moreB0 pairs (apartB.add .eql (.at 7) (.lit 12) true) = true := by kernel_rfl
theorem more0_13 : moreB0 pairs (apartB.add .eql (.at 7) (.lit 13) true) = true := by kernel_rfl
theorem core0 (E : Val) (us : List Value) (W : World) (q0 q1 : Rg) (hA : (mkA q0 q1).Holds E.I) (hr : (rangeAsm 19).Holds E.I) (hR : ∀ i, -9223372036854775808 ≤ E.I i ∧ E.I i ≤ 9223372036854775807) (h17 : 0 ≤ E.I 17 ∧ E.I 17 ≤ 3) (h18 : 0 ≤ E.I 18 ∧ E.I 18 ≤ 15)
    (hq : runQ0 q0 q1 = true) (hT : TabsIn E 5 tsY03 W) (hU : DenL E (rho0 5) [cfNM, ntNM0, moNM] us) : Calls Tryd.prog 6 us.toArray W fun e W' => e = .returned (.bool true) ∧ Below W.heap.size W W' := by
  simp only [runQ0, runA0, Bool.and_eq_true] at hq
  obtain ⟨⟨⟨ra, rb⟩, rc, rd⟩, rk'⟩ := hq
  have hB := fun (A : Asm) (h : A.Holds E.I) => B3_ok E A h
  obtain ⟨m, hm⟩ : ∃ x, atM1.at (fun i => (sId i).den E.I) = x := ⟨_, rfl⟩
  obtain ⟨m2, hm2⟩ : ∃ x, atM1.at (fun i => (sD i).den E.I) = x := ⟨_, rfl⟩
  obtain ⟨x, hx⟩ : ∃ x, atC0.at (fun i => (sId i).den E.I) = x := ⟨_, rfl⟩
  obtain ⟨y, hy⟩ : ∃ x, atC0.at (fun i => (sD i).den E.I) = x := ⟨_, rfl⟩
  have l1 : LetOk Tryd.prog 5 tsY03 E ⟨11, [cfNM], m⟩ := letOk_inst (c := ⟨11, patM1, 7, atM1⟩) tsY03_lit okM1 plainM1 sId hR hm (by kernel_rfl)
  have l2 : LetOk Tryd.prog 5 tsY03 E ⟨11, [cdNM], m2⟩ := letOk_inst (c := ⟨11, patM1, 7, atM1⟩) tsY03_lit okM1 plainM1 sD (sD_range hR) hm2 (by kernel_rfl)
  have l3 : LetOk Tryd.prog 5 tsY03 E ⟨12, [cfNM, ntNM0], x⟩ := letOk_inst (c := ⟨12, patC0, 15, atC0⟩) tsY03_lit okC0 plainC0 sId hR hx (by kernel_rfl)
  have l4 : LetOk Tryd.prog 5 tsY03 E ⟨12, [cdNM, ntNM0], y⟩ := letOk_inst (c := ⟨12, patC0, 15, atC0⟩) tsY03_lit okC0 plainC0 sD (sD_range hR) hy (by kernel_rfl)
  have p1 : ([cfNM] : List SV).all SV.plain = true := by kernel_rfl
  have p2 : ([cdNM] : List SV).all SV.plain = true := by kernel_rfl
  have p3 : ([cfNM, ntNM0] : List SV).all SV.plain = true := by kernel_rfl
  have p4 : ([cdNM, ntNM0] : List SV).all SV.plain = true := by kernel_rfl
  have bit : ∀ {v : SV}, inSet [[.bool true], [.bool false]] [v] = true → v = .bool true ∨ v = .bool false := by
    intro v hv
    simp only [inSet, List.any_eq_true, List.mem_cons, List.not_mem_nil, or_false] at hv
    obtain ⟨z, rfl | rfl, hz⟩ := hv
    · have := SV.eq_of_beqL hz; simp at this; exact .inl this.symm
    · have := SV.eq_of_beqL hz; simp at this; exact .inr this.symm
  have sides : atM1.each sId (fun _ v => inSet [[.bool true], [.bool false]] [v]) (rangeAsm 19) = true := by kernel_rfl
  have sides2 : atM1.each sD (fun _ v => inSet [[.bool true], [.bool false]] [v]) (rangeAsm 19) = true := by kernel_rfl
  obtain ⟨_, _, b1⟩ := ATree.each_ok sId hr sides
  obtain ⟨_, _, b2⟩ := ATree.each_ok sD hr sides2
  rw [hm] at b1
  rw [hm2] at b2
  rcases bit b1 with rfl | rfl
  case inr =>
    refine law_let (B := B3) tsY03_lit ra hA (hB _ hA) (fun c hc => ?_) hT hU
    obtain rfl := List.mem_singleton.1 hc
    exact ⟨p1, l1⟩
  rcases bit b2 with rfl | rfl
  case inr =>
    refine law_let (B := B3) tsY03_lit rb hA (hB _ hA) (fun c hc => ?_) hT hU
    simp only [List.mem_cons, List.not_mem_nil, or_false] at hc
    rcases hc with rfl | rfl
    · exact ⟨p1, l1⟩
    · exact ⟨p2, l2⟩
  have lets : ∀ c ∈ letsNM0 x y, c.args.all SV.plain = true ∧ LetOk Tryd.prog 5 tsY03 E c := by
    intro c hc
    simp only [letsNM0, List.mem_cons, List.not_mem_nil, or_false] at hc
    rcases hc with rfl | rfl | rfl | rfl
    · exact ⟨p1, l1⟩
    · exact ⟨p2, l2⟩
    · exact ⟨p3, l3⟩
    · exact ⟨p4, l4⟩
  have ap := apartB_ok h17 h18
  by_cases n1 : E.I 7 < 1
  · have k4 := moreB0_ok moreL0 (ap.add (decide_eq_true n1)) hm hm2
    rw [hx, hy] at k4
    simp only [inSet, pairsK, List.any_eq_true, List.mem_cons, List.not_mem_nil, or_false] at k4
    obtain ⟨z, rfl, hz⟩ := k4
    have := SV.eq_of_beqL hz
    simp only [List.cons.injEq, and_true] at this
    obtain ⟨rfl, rfl⟩ := this
    exact law_let (B := B3) tsY03_lit rd hA (hB _ hA) lets hT hU
  by_cases n2 : E.I 7 > 13
  · have k4 := moreB0_ok moreG0 (ap.add (decide_eq_true n2)) hm hm2
    rw [hx, hy] at k4
    simp only [inSet, pairsK, List.any_eq_true, List.mem_cons, List.not_mem_nil, or_false] at k4
    obtain ⟨z, rfl, hz⟩ := k4
    have := SV.eq_of_beqL hz
    simp only [List.cons.injEq, and_true] at this
    obtain ⟨rfl, rfl⟩ := this
    exact law_let (B := B3) tsY03_lit rd hA (hB _ hA) lets hT hU
  obtain ⟨k, hk, hmem⟩ : ∃ k : Nat, E.I 7 = k ∧ k ∈ [1, 2, 3, 4, 5, 6, 7, 8, 9, 10, 11, 12, 13] := by
    refine ⟨(E.I 7).toNat, by omega, ?_⟩
    have : (E.I 7).toNat = 1 ∨ (E.I 7).toNat = 2 ∨ (E.I 7).toNat = 3 ∨ (E.I 7).toNat = 4 ∨ (E.I 7).toNat = 5 ∨ (E.I 7).toNat = 6 ∨ (E.I 7).toNat = 7 ∨ (E.I 7).toNat = 8 ∨ (E.I 7).toNat = 9 ∨ (E.I 7).toNat = 10 ∨ (E.I 7).toNat = 11 ∨ (E.I 7).toNat = 12 ∨ (E.I 7).toNat = 13 := by omega
    simpa using this
  have hmore : moreB0 pairs (apartB.add .eql (.at 7) (.lit k) true) = true := by
    simp only [List.mem_cons, List.not_mem_nil, or_false] at hmem
    rcases hmem with rfl | rfl | rfl | rfl | rfl | rfl | rfl | rfl | rfl | rfl | rfl | rfl | rfl
    · exact more0_1
    · exact more0_2
    · exact more0_3
    · exact more0_4
    · exact more0_5
    · exact more0_6
    · exact more0_7
    · exact more0_8
    · exact more0_9
    · exact more0_10
    · exact more0_11
    · exact more0_12
    · exact more0_13
  have heq : (E.I 7 == (k : Int)) = true := by simp [hk]
  have k4 := moreB0_ok hmore (ap.add heq) hm hm2
  rw [hx, hy] at k4
  have hK : ((mkA q0 q1).add .eql (.at 7) (.lit k) true).Holds E.I := hA.add heq
  have hrun := List.all_eq_true.1 rk' k hmem
  simp only [runK0, Bool.and_eq_true] at hrun
  simp only [inSet, pairs, List.any_eq_true, List.mem_cons, List.not_mem_nil, or_false] at k4
  obtain ⟨z, rfl | rfl | rfl | rfl, hz⟩ := k4
  · have := SV.eq_of_beqL hz; simp only [List.cons.injEq, and_true] at this; obtain ⟨rfl, rfl⟩ := this; exact law_let (B := B3) tsY03_lit hrun.1 hK (hB _ hK) lets hT hU
  · have := SV.eq_of_beqL hz; simp only [List.cons.injEq, and_true] at this; obtain ⟨rfl, rfl⟩ := this; exact law_let (B := B3) tsY03_lit hrun.2 hK (hB _ hK) lets hT hU
  · have := SV.eq_of_beqL hz; simp only [List.cons.injEq, and_true] at this; obtain ⟨rfl, rfl⟩ := this; exact law_let (B := B3) tsY03_lit rc hA (hB _ hA) lets hT hU
  · have := SV.eq_of_beqL hz; simp only [List.cons.injEq, and_true] at this; obtain ⟨rfl, rfl⟩ := this; exact law_let (B := B3) tsY03_lit rd hA (hB _ hA) lets hT hU
noncomputable def ntNM1 : SV := .agg [.int .i64 (.at 7), .int .i64 (.at 8), .int .i64 (.at 9), .int .i64 (.at 10), .int .i64 (.at 11), .int .i64 (.at 12), .int .i64 (.at 13), .bool true, .int .i64 (.at 14)]
noncomputable def runNM1 (A : Asm) (l : List LetC) : Bool := isTrueR ((rk ⟨Tryd.prog, A, 5⟩ ((letBase tsY03 l).or (B3 A)) 3000).call 6 [cfNM, ntNM1, moNM] (tabHeap tsY03) 5)
noncomputable def letsNM1 (x y : SV) : List LetC := [⟨11, [cfNM], .bool true⟩, ⟨11, [cdNM], .bool true⟩, ⟨12, [cfNM, ntNM1], x⟩, ⟨12, [cdNM, ntNM1], y⟩]
noncomputable def runA1 (q0 q1 : Rg) : Bool := (runNM1 (mkA q0 q1) [⟨11, [cfNM], .bool false⟩] && runNM1 (mkA q0 q1) [⟨11, [cfNM], .bool true⟩, ⟨11, [cdNM], .bool false⟩]) && (runNM1 (mkA q0 q1) (letsNM1 (ij 10) (ij 10)) && runNM1 (mkA q0 q1) (letsNM1 (ij 15) (ij 15)))
noncomputable def runK1 (q0 q1 : Rg) (k : Nat) : Bool := runNM1 ((mkA q0 q1).add .eql (.at 7) (.lit k) true) (letsNM1 (ij 0) (ij 0)) && runNM1 ((mkA q0 q1).add .eql (.at 7) (.lit k) true) (letsNM1 (ij 10) (ij 0))
noncomputable def runQ1 (q0 : Rg) (q1 : Rg) : Bool := runA1 q0 q1 && [1, 2, 3, 4, 5, 6, 7, 8, 9, 10, 11, 12, 13].all fun k => runK1 q0 q1 k
/-- More cores and granules: what may be, may be still. -/
noncomputable def moreB1 (S : List (List SV)) (A : Asm) : Bool := atM1.each sId (fun A v => SV.beq v (.bool false) || atM1.each sD (fun A v => SV.beq v (.bool false) || atC1.each sId (fun A x => atC1.each sD (fun _ y => inSet S [y, x]) A) A) A) A
theorem moreB1_ok {S : List (List SV)} {A : Asm} {I : Nat → Int} (h : moreB1 S A = true) (hA : A.Holds I) (h1 : atM1.at (fun i => (sId i).den I) = .bool true) (h2 : atM1.at (fun i => (sD i).den I) = .bool true) : inSet S [atC1.at (fun i => (sD i).den I), atC1.at (fun i => (sId i).den I)] = true := by
  obtain ⟨A1, hA1, k1⟩ := ATree.each_ok sId hA h
  rw [h1] at k1
  have k1' : atM1.each sD (fun A v => SV.beq v (.bool false) || atC1.each sId (fun A x => atC1.each sD (fun _ y => inSet S [y, x]) A) A) A1 = true := by simpa [SV.beq] using k1
  obtain ⟨A2, hA2, k2⟩ := ATree.each_ok sD hA1 k1'
  rw [h2] at k2
  have k2' : atC1.each sId (fun A x => atC1.each sD (fun _ y => inSet S [y, x]) A) A2 = true := by simpa [SV.beq] using k2
  obtain ⟨A3, hA3, k3⟩ := ATree.each_ok sId hA2 k2'
  obtain ⟨A4, hA4, k4⟩ := ATree.each_ok sD hA3 k3
  exact k4
theorem moreL1 : moreB1 pairsK (apartB.add .lss (.at 7) (.lit 1) true) = true := by kernel_rfl
theorem moreG1 : moreB1 pairsK (apartB.add .gtr (.at 7) (.lit 13) true) = true := by kernel_rfl
theorem more1_1 : moreB1 pairs (apartB.add .eql (.at 7) (.lit 1) true) = true := by kernel_rfl
theorem more1_2 : moreB1 pairs (apartB.add .eql (.at 7) (.lit 2) true) = true := by kernel_rfl
theorem more1_3 : moreB1 pairs (apartB.add .eql (.at 7) (.lit 3) true) = true := by kernel_rfl
theorem more1_4 : moreB1 pairs (apartB.add .eql (.at 7) (.lit 4) true) = true := by kernel_rfl
theorem more1_5 : moreB1 pairs (apartB.add .eql (.at 7) (.lit 5) true) = true := by kernel_rfl
theorem more1_6 : moreB1 pairs (apartB.add .eql (.at 7) (.lit 6) true) = true := by kernel_rfl
theorem more1_7 : moreB1 pairs (apartB.add .eql (.at 7) (.lit 7) true) = true := by kernel_rfl
theorem more1_8 : moreB1 pairs (apartB.add .eql (.at 7) (.lit 8) true) = true := by kernel_rfl
theorem more1_9 : moreB1 pairs (apartB.add .eql (.at 7) (.lit 9) true) = true := by kernel_rfl
theorem more1_10 : moreB1 pairs (apartB.add .eql (.at 7) (.lit 10) true) = true := by kernel_rfl
theorem more1_11 : moreB1 pairs (apartB.add .eql (.at 7) (.lit 11) true) = true := by kernel_rfl
theorem more1_12 : moreB1 pairs (apartB.add .eql (.at 7) (.lit 12) true) = true := by kernel_rfl
theorem more1_13 : moreB1 pairs (apartB.add .eql (.at 7) (.lit 13) true) = true := by kernel_rfl
theorem core1 (E : Val) (us : List Value) (W : World) (q0 q1 : Rg) (hA : (mkA q0 q1).Holds E.I) (hr : (rangeAsm 19).Holds E.I) (hR : ∀ i, -9223372036854775808 ≤ E.I i ∧ E.I i ≤ 9223372036854775807) (h17 : 0 ≤ E.I 17 ∧ E.I 17 ≤ 3) (h18 : 0 ≤ E.I 18 ∧ E.I 18 ≤ 15)
    (hq : runQ1 q0 q1 = true) (hT : TabsIn E 5 tsY03 W) (hU : DenL E (rho0 5) [cfNM, ntNM1, moNM] us) : Calls Tryd.prog 6 us.toArray W fun e W' => e = .returned (.bool true) ∧ Below W.heap.size W W' := by
  simp only [runQ1, runA1, Bool.and_eq_true] at hq
  obtain ⟨⟨⟨ra, rb⟩, rc, rd⟩, rk'⟩ := hq
  have hB := fun (A : Asm) (h : A.Holds E.I) => B3_ok E A h
  obtain ⟨m, hm⟩ : ∃ x, atM1.at (fun i => (sId i).den E.I) = x := ⟨_, rfl⟩
  obtain ⟨m2, hm2⟩ : ∃ x, atM1.at (fun i => (sD i).den E.I) = x := ⟨_, rfl⟩
  obtain ⟨x, hx⟩ : ∃ x, atC1.at (fun i => (sId i).den E.I) = x := ⟨_, rfl⟩
  obtain ⟨y, hy⟩ : ∃ x, atC1.at (fun i => (sD i).den E.I) = x := ⟨_, rfl⟩
  have l1 : LetOk Tryd.prog 5 tsY03 E ⟨11, [cfNM], m⟩ := letOk_inst (c := ⟨11, patM1, 7, atM1⟩) tsY03_lit okM1 plainM1 sId hR hm (by kernel_rfl)
  have l2 : LetOk Tryd.prog 5 tsY03 E ⟨11, [cdNM], m2⟩ := letOk_inst (c := ⟨11, patM1, 7, atM1⟩) tsY03_lit okM1 plainM1 sD (sD_range hR) hm2 (by kernel_rfl)
  have l3 : LetOk Tryd.prog 5 tsY03 E ⟨12, [cfNM, ntNM1], x⟩ := letOk_inst (c := ⟨12, patC1, 15, atC1⟩) tsY03_lit okC1 plainC1 sId hR hx (by kernel_rfl)
  have l4 : LetOk Tryd.prog 5 tsY03 E ⟨12, [cdNM, ntNM1], y⟩ := letOk_inst (c := ⟨12, patC1, 15, atC1⟩) tsY03_lit okC1 plainC1 sD (sD_range hR) hy (by kernel_rfl)
  have p1 : ([cfNM] : List SV).all SV.plain = true := by kernel_rfl
  have p2 : ([cdNM] : List SV).all SV.plain = true := by kernel_rfl
  have p3 : ([cfNM, ntNM1] : List SV).all SV.plain = true := by kernel_rfl
  have p4 : ([cdNM, ntNM1] : List SV).all SV.plain = true := by kernel_rfl
  have bit : ∀ {v : SV}, inSet [[.bool true], [.bool false]] [v] = true → v = .bool true ∨ v = .bool false := by
    intro v hv
    simp only [inSet, List.any_eq_true, List.mem_cons, List.not_mem_nil, or_false] at hv
    obtain ⟨z, rfl | rfl, hz⟩ := hv
    · have := SV.eq_of_beqL hz; simp at this; exact .inl this.symm
    · have := SV.eq_of_beqL hz; simp at this; exact .inr this.symm
  have sides : atM1.each sId (fun _ v => inSet [[.bool true], [.bool false]] [v]) (rangeAsm 19) = true := by kernel_rfl
  have sides2 : atM1.each sD (fun _ v => inSet [[.bool true], [.bool false]] [v]) (rangeAsm 19) = true := by kernel_rfl
  obtain ⟨_, _, b1⟩ := ATree.each_ok sId hr sides
  obtain ⟨_, _, b2⟩ := ATree.each_ok sD hr sides2
  rw [hm] at b1
  rw [hm2] at b2
  rcases bit b1 with rfl | rfl
  case inr =>
    refine law_let (B := B3) tsY03_lit ra hA (hB _ hA) (fun c hc => ?_) hT hU
    obtain rfl := List.mem_singleton.1 hc
    exact ⟨p1, l1⟩
  rcases bit b2 with rfl | rfl
  case inr =>
    refine law_let (B := B3) tsY03_lit rb hA (hB _ hA) (fun c hc => ?_) hT hU
    simp only [List.mem_cons, List.not_mem_nil, or_false] at hc
    rcases hc with rfl | rfl
    · exact ⟨p1, l1⟩
    · exact ⟨p2, l2⟩
  have lets : ∀ c ∈ letsNM1 x y, c.args.all SV.plain = true ∧ LetOk Tryd.prog 5 tsY03 E c := by
    intro c hc
    simp only [letsNM1, List.mem_cons, List.not_mem_nil, or_false] at hc
    rcases hc with rfl | rfl | rfl | rfl
    · exact ⟨p1, l1⟩
    · exact ⟨p2, l2⟩
    · exact ⟨p3, l3⟩
    · exact ⟨p4, l4⟩
  have ap := apartB_ok h17 h18
  by_cases n1 : E.I 7 < 1
  · have k4 := moreB1_ok moreL1 (ap.add (decide_eq_true n1)) hm hm2
    rw [hx, hy] at k4
    simp only [inSet, pairsK, List.any_eq_true, List.mem_cons, List.not_mem_nil, or_false] at k4
    obtain ⟨z, rfl, hz⟩ := k4
    have := SV.eq_of_beqL hz
    simp only [List.cons.injEq, and_true] at this
    obtain ⟨rfl, rfl⟩ := this
    exact law_let (B := B3) tsY03_lit rd hA (hB _ hA) lets hT hU
  by_cases n2 : E.I 7 > 13
  · have k4 := moreB1_ok moreG1 (ap.add (decide_eq_true n2)) hm hm2
    rw [hx, hy] at k4
    simp only [inSet, pairsK, List.any_eq_true, List.mem_cons, List.not_mem_nil, or_false] at k4
    obtain ⟨z, rfl, hz⟩ := k4
    have := SV.eq_of_beqL hz
    simp only [List.cons.injEq, and_true] at this
    obtain ⟨rfl, rfl⟩ := this
    exact law_let (B := B3) tsY03_lit rd hA (hB _ hA) lets hT hU
  obtain ⟨k, hk, hmem⟩ : ∃ k : Nat, E.I 7 = k ∧ k ∈ [1, 2, 3, 4, 5, 6, 7, 8, 9, 10, 11, 12, 13] := by
    refine ⟨(E.I 7).toNat, by omega, ?_⟩
    have : (E.I 7).toNat = 1 ∨ (E.I 7).toNat = 2 ∨ (E.I 7).toNat = 3 ∨ (E.I 7).toNat = 4 ∨ (E.I 7).toNat = 5 ∨ (E.I 7).toNat = 6 ∨ (E.I 7).toNat = 7 ∨ (E.I 7).toNat = 8 ∨ (E.I 7).toNat = 9 ∨ (E.I 7).toNat = 10 ∨ (E.I 7).toNat = 11 ∨ (E.I 7).toNat = 12 ∨ (E.I 7).toNat = 13 := by omega
    simpa using this
  have hmore : moreB1 pairs (apartB.add .eql (.at 7) (.lit k) true) = true := by
    simp only [List.mem_cons, List.not_mem_nil, or_false] at hmem
    rcases hmem with rfl | rfl | rfl | rfl | rfl | rfl | rfl | rfl | rfl | rfl | rfl | rfl | rfl
    · exact more1_1
    · exact more1_2
    · exact more1_3
    · exact more1_4
    · exact more1_5
    · exact more1_6
    · exact more1_7
    · exact more1_8
    · exact more1_9
    · exact more1_10
    · exact more1_11
    · exact more1_12
    · exact more1_13
  have heq : (E.I 7 == (k : Int)) = true := by simp [hk]
  have k4 := moreB1_ok hmore (ap.add heq) hm hm2
  rw [hx, hy] at k4
  have hK : ((mkA q0 q1).add .eql (.at 7) (.lit k) true).Holds E.I := hA.add heq
  have hrun := List.all_eq_true.1 rk' k hmem
  simp only [runK1, Bool.and_eq_true] at hrun
  simp only [inSet, pairs, List.any_eq_true, List.mem_cons, List.not_mem_nil, or_false] at k4
  obtain ⟨z, rfl | rfl | rfl | rfl, hz⟩ := k4
  · have := SV.eq_of_beqL hz; simp only [List.cons.injEq, and_true] at this; obtain ⟨rfl, rfl⟩ := this; exact law_let (B := B3) tsY03_lit hrun.1 hK (hB _ hK) lets hT hU
  · have := SV.eq_of_beqL hz; simp only [List.cons.injEq, and_true] at this; obtain ⟨rfl, rfl⟩ := this; exact law_let (B := B3) tsY03_lit hrun.2 hK (hB _ hK) lets hT hU
  · have := SV.eq_of_beqL hz; simp only [List.cons.injEq, and_true] at this; obtain ⟨rfl, rfl⟩ := this; exact law_let (B := B3) tsY03_lit rc hA (hB _ hA) lets hT hU
  · have := SV.eq_of_beqL hz; simp only [List.cons.injEq, and_true] at this; obtain ⟨rfl, rfl⟩ := this; exact law_let (B := B3) tsY03_lit rd hA (hB _ hA) lets hT hU
end Go.Proofs.YtpabnkbpklggnaaDoor
