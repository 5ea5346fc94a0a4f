/- A core at a state; the contract of Local, in the walk's words. No condition. -/
import Derived.Test.YtfiangiajhdhcaaDoorCL2
namespace Go.Proofs.YtfiangiajhdhcaaDoor
open Go.RowKit
set_option linter.unusedVariables false
set_option maxRecDepth 100000

/-! ### A core at a state -/
theorem locT_sb (I : Nat → Int) : ((locT I).all (fun v bs => outUnder 25 v bs && blk7 bs) && (locT I).under 25) = true := by
  unfold locT
  repeat' split
  all_goals first | exact sb1 | exact sb6 | exact sb7 | exact sb9 | exact sb10 | exact sb0 | exact sb2_00 | exact sb2_01 | exact sb2_02 | exact sb2_03 | exact sb2_10 | exact sb2_11 | exact sb2_12 | exact sb2_13 | exact sb2_20 | exact sb2_21 | exact sb2_22 | exact sb2_23 | exact sb2_30 | exact sb2_31 | exact sb2_32 | exact sb2_33
theorem svN_congr {n : Nat} {I J : Nat → Int} (h : ∀ i, i < n → I i = J i) {v : SV} (k : v.under n = true) : svN I v = svN J v := by
  cases v <;> try (simp [SV.under] at k; done)
  case bool b => rfl
  case int k' e => exact IE.under_ok h k
  case side e => exact IE.under_ok h k
  case asl => rfl
theorem svN_getD {n : Nat} {I J : Nat → Int} (h : ∀ i, i < n → I i = J i) {l : List SV} (k : l.all (SV.under n) = true) (j : Nat) : svN I (l.getD j .any) = svN J (l.getD j .any) := by
  rw [List.getD_eq_getElem?_getD]
  cases e : l[j]? with
  | none => rfl
  | some x => exact svN_congr h (List.all_eq_true.1 k x (List.mem_of_getElem? e))
theorem loc_congr {I J : Nat → Int} (h : ∀ i, i < 25 → I i = J i) : (∀ j, blkN I ((locT I).at I).2 j = blkN J ((locT J).at J).2 j) ∧ ∀ j, tupN I ((locT I).at I).1 j = tupN J ((locT J).at J).1 j := by
  have e1 : locT I = locT J := by
    unfold locT
    rw [h 9 (by omega), h 10 (by omega), h 11 (by omega)]
  have hs := locT_sb J
  rw [e1]
  simp only [Bool.and_eq_true] at hs
  have e2 : (locT J).at I = (locT J).at J := LTree.under_ok h hs.2
  rw [e2]
  have ho := LTree.all_at (I := J) hs.1
  simp only [Bool.and_eq_true] at ho
  have ho := ho.1
  revert ho
  generalize (locT J).at J = o
  obtain ⟨v, bs⟩ := o
  intro ho
  simp only at ho ⊢
  unfold outUnder at ho
  split at ho
  · simp only [Bool.and_eq_true] at ho
    obtain ⟨⟨h1, h2⟩, h3⟩ := ho
    refine ⟨fun j => svN_getD h h3 j, fun j => ?_⟩
    simp only [tupN]
    split
    · exact svN_getD h h1 j
    · exact svN_congr h h2
  · cases ho
noncomputable def locI (p : Pg) (σ : Nat → Int) (no : Int) (i : Nat) : Int :=
  if i < 7 then σ i else if i = 7 then no else if i = 8 then p.L else if i < 13 then p.ins (σ 4) (i - 9) else if i < 17 then p.ins (σ 4 + 1) (i - 13) else if i < 21 then p.ins (p.ins (σ 4) 1) (i - 17) else p.ins (p.ins (σ 4) 2) (i - 21)
/-- The core's numbers behind its next instruction. -/
noncomputable def nxt (p : Pg) (no : Int) (σ : Nat → Int) (j : Nat) : Int := blkN (locI p σ no) ((locT (locI p σ no)).at (locI p σ no)).2 j
/-- The event's numbers; the last one is 1, if there is one. -/
noncomputable def evt (p : Pg) (no : Int) (σ : Nat → Int) (j : Nat) : Int := tupN (locI p σ no) ((locT (locI p σ no)).at (locI p σ no)).1 j
noncomputable def stE (p : Pg) (σ : Nat → Int) (no : Int) : Val where
  I := fun i => if i < 25 then locI p σ no i else if i < 37 then nxt p no σ (i - 30) else evt p no σ (i - 40)
  V := fun _ => undef
  W := fun _ => p.W
  F := fun _ => p.F
  lt := fun _ _ _ _ h k => Pg.lt h k
  loc := fun _ _ _ _ h k => Pg.loc h k
theorem stE_loc (p : Pg) (σ : Nat → Int) (no : Int) : LocE (stE p σ no) p := by
  refine ⟨rfl, rfl, rfl, fun j hj => ?_, fun j hj => ?_, fun j hj => ?_, fun j hj => ?_⟩
  all_goals
    have c : j = 0 ∨ j = 1 ∨ j = 2 ∨ j = 3 := by omega
    rcases c with rfl | rfl | rfl | rfl <;> rfl
theorem stE_ok {p : Pg} (hp : p.ok) {σ : Nat → Int} (no : Int) (h4 : 0 ≤ σ 4 ∧ σ 4 ≤ p.L) : AbsOk Tryd.prog 9 tsY15 (stE p σ no) ⟨40, [.ptr 0 0], preP0, [coreN, .abs 7 true], [], locV⟩ := by
  have hc := loc_congr (I := (stE p σ no).I) (J := locI p σ no) (fun i hi => by simp only [stE]; rw [if_pos hi])
  refine local_ok hp (stE_loc p σ no) h4 (fun j hj => ?_) (fun j hj => ?_)
  · rw [hc.1]
    have : (stE p σ no).I (30 + j) = nxt p no σ (30 + j - 30) := by simp only [stE]; rw [if_neg (by omega), if_pos (by omega)]
    rw [this, Nat.add_sub_cancel_left]; rfl
  · rw [hc.2]
    have : (stE p σ no).I (40 + j) = evt p no σ (40 + j - 40) := by simp only [stE]; rw [if_neg (by omega), if_neg (by omega)]
    rw [this, Nat.add_sub_cancel_left]; rfl
/-- A core that lies in block P, its program in place q. -/
structure CoAt (p : Pg) (σ : Nat → Int) (no : Int) (P : Nat) (q : Place) (w : World) : Prop where
  core : BRel (stE p σ no) (rhoS [⟨P, 0, 9, undef⟩, q]) w ⟨P, 0, 9, undef⟩ (coreP [])
  prog : p.W q w
  apart : ¬ p.F q P
  p0 : P ≠ 0
  q0 : ¬ p.F q 0
theorem core_next {p : Pg} {σ : Nat → Int} {no : Int} {ρ : Rho} {w : World} {pl : Place} (h : BRel (stE p σ no) ρ w pl coreN) : BRel (stE p (nxt p no σ) no) ρ w pl (coreP []) := by
  obtain ⟨c, el, us, h1, h2, h3⟩ := h
  refine ⟨c, el, us, h1, ?_, h3⟩
  obtain ⟨u0, t, d0, h2, rfl⟩ := h2
  obtain ⟨u1, t, d1, h2, rfl⟩ := h2
  obtain ⟨u2, t, d2, h2, rfl⟩ := h2
  obtain ⟨u3, t, d3, h2, rfl⟩ := h2
  obtain ⟨u4, t, d4, h2, rfl⟩ := h2
  obtain ⟨u5, t, d5, h2, rfl⟩ := h2
  obtain ⟨u6, t, d6, h2, rfl⟩ := h2
  obtain ⟨u7, t, d7, h2, rfl⟩ := h2
  obtain ⟨u8, t, d8, h2, rfl⟩ := h2
  cases h2
  have d8' : Den (stE p (nxt p no σ) no) ρ (.asl 1 (.at 8) 4 [] []) u8 := by
    obtain ⟨q, k0, k1, k2, av, c, k3, k4, _⟩ := d8
    exact ⟨q, k0, k1, k2, av, c, k3, fun x hx => (by cases hx), fun x hx => by cases hx⟩
  exact ⟨u0, _, d0, ⟨u1, _, d1, ⟨u2, _, d2, ⟨u3, _, d3, ⟨u4, _, d4, ⟨u5, _, d5, ⟨u6, _, d6, ⟨u7, _, d7, ⟨u8, _, d8', rfl, rfl⟩, rfl⟩, rfl⟩, rfl⟩, rfl⟩, rfl⟩, rfl⟩, rfl⟩, rfl⟩
theorem CoAt.lt {p : Pg} {σ : Nat → Int} {no : Int} {P : Nat} {q : Place} {w : World} (h : CoAt p σ no P q w) : P < w.heap.size := by
  obtain ⟨c, el, us, h1, _⟩ := h.core
  exact heap_lt h1
/-- Kept where none of its blocks is turned. -/
theorem CoAt.kept {p : Pg} {σ : Nat → Int} {no : Int} {P : Nat} {q : Place} {w w' : World} (h : CoAt p σ no P q w) (hf : ∀ k, k = P ∨ p.F q k → w'.heap[k]? = w.heap[k]?) : CoAt p σ no P q w' :=
  ⟨h.core.mono (.refl _) (fun k hk => hf k (.inl (show P = k from hk).symm)), Pg.loc h.prog (fun k hk => hf k (.inr hk)), h.apart, h.p0, h.q0⟩
theorem local_call {p : Pg} (hp : p.ok) {σ : Nat → Int} (no : Int) (h4 : 0 ≤ σ 4 ∧ σ 4 ≤ p.L) {P : Nat} {q : Place} (w : World) (h : CoAt p σ no P q w) (hT : TabsIn (stE p σ no) 9 tsY15 w) :
    Calls Tryd.prog 40 #[.pointer (some ⟨P, 0, none⟩)] w fun r w' => r = .returned (.tuple #[.agg #[.int .i64 (evt p no σ 0), .int .i64 (evt p no σ 1), .int .i64 (evt p no σ 2), .int .i64 (evt p no σ 3), .int .i64 (evt p no σ 4), .int .i64 (evt p no σ 5), .int .i64 (evt p no σ 6)], .bool (evt p no σ 7 == 1)]) ∧ CoAt p (nxt p no σ) no P q w' ∧ FrS (fun x => x = P ∨ p.F q x) w w' := by
  have two : ∀ (k : Nat) (i : SBlk) (b : Place), preP0[k]? = some i → [(⟨P, 0, 9, undef⟩ : Place), q][k]? = some b → (k = 0 ∧ i = coreP [] ∧ b = ⟨P, 0, 9, undef⟩) ∨ (k = 1 ∧ i = .abs 7 true ∧ b = q) := fun k i b hi hb => by
    match k with
    | 0 => simp [preP0] at hi hb; exact .inl ⟨rfl, hi.symm, hb.symm⟩
    | 1 => simp [preP0] at hi hb; exact .inr ⟨rfl, hi.symm, hb.symm⟩
    | k + 2 => simp [preP0] at hi
  have hcall := stE_ok hp no h4 [⟨P, 0, 9, undef⟩, q] [.pointer (some ⟨P, 0, none⟩)] w rfl hT (fun k i b hi hb => by
      rcases two k i b hi hb with ⟨rfl, rfl, rfl⟩ | ⟨rfl, rfl, rfl⟩
      · exact h.core
      · exact h.prog) (fun k l i j b d x hi hj hb hd f1 f2 => by
      rcases two k i b hi hb with ⟨rfl, rfl, rfl⟩ | ⟨rfl, rfl, rfl⟩ <;> rcases two l j d hj hd with ⟨rfl, rfl, rfl⟩ | ⟨rfl, rfl, rfl⟩
      · rfl
      · have e : P = x := f1
        subst e; exact absurd f2 h.apart
      · have e : P = x := f2
        subst e; exact absurd f1 h.apart
      · rfl) (fun k i b x _ _ _ _ hk => hk) (fun k i b g l hi hb hm hf => by
      have hg : g = 0 := by simp only [tsY15, List.mem_cons, List.not_mem_nil, or_false, Prod.mk.injEq] at hm; exact hm.1
      subst hg
      rcases two k i b hi hb with ⟨rfl, rfl, rfl⟩ | ⟨rfl, rfl, rfl⟩
      · exact h.p0 hf
      · exact h.q0 hf) ⟨_, [], ⟨⟨P, 0, 9, undef⟩, rfl, rfl⟩, rfl, rfl⟩
  refine (callsIn_wide (n := 0)).1 (CallsIn.mono ((callsIn_wide (n := 0)).2 hcall) ?_)
  rintro e w' ⟨u, nb, rfl, pst⟩
  have hnb : nb = [] := List.eq_nil_of_length_eq_zero pst.len
  subst hnb
  refine ⟨?_, ⟨core_next (pst.is 0 _ _ rfl rfl), ?_, h.apart, h.p0, h.q0⟩, ?_⟩
  · obtain ⟨a, ha, rfl⟩ := pst.den
    obtain ⟨u0, t, ⟨b, hb, rfl⟩, ha, rfl⟩ := ha
    obtain ⟨u1, t, d1, ha, rfl⟩ := ha
    cases ha
    obtain ⟨v0, t, e0, hb, rfl⟩ := hb
    obtain ⟨v1, t, e1, hb, rfl⟩ := hb
    obtain ⟨v2, t, e2, hb, rfl⟩ := hb
    obtain ⟨v3, t, e3, hb, rfl⟩ := hb
    obtain ⟨v4, t, e4, hb, rfl⟩ := hb
    obtain ⟨v5, t, e5, hb, rfl⟩ := hb
    obtain ⟨v6, t, e6, hb, rfl⟩ := hb
    cases hb
    cases e0; cases e1; cases e2; cases e3; cases e4; cases e5; cases e6; cases d1
    rfl
  · exact pst.is 1 (.abs 7 true) q rfl rfl
  · refine ⟨pst.fr.os, pst.fr.tape, pst.fr.output, pst.fr.size, fun k hk hn => pst.fr.block k hk (fun ⟨j, i, b, hi, _, hb, hf⟩ => hn ?_)⟩
    rcases two j i b hi hb with ⟨rfl, rfl, rfl⟩ | ⟨rfl, rfl, rfl⟩
    · exact .inl (show P = k from hf).symm
    · exact .inr hf
end Go.Proofs.YtfiangiajhdhcaaDoor
