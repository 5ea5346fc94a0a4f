/- The reckoner: a symbolic evaluator of a program, proved sound; one of its texts. No condition. -/
import Derived.Test.YtfiangiajhdhcaaDoorV26
namespace Go.Proofs.YtfiangiajhdhcaaDoor
open Go.RowKit
set_option linter.unusedVariables false
set_option maxRecDepth 100000

/-! ### Calls that are reckoned once, from a heap that is written out -/
noncomputable def SBlk.beq : SBlk → SBlk → Bool
  | .cells l e, .cells l' e' => SV.beqL l l' && decide (e = e')
  | .ro l, .ro l' => SV.beqL l l'
  | .map [] c, .map [] c' => c == c'
  | _, _ => false
theorem SBlk.eq_of_beq {a b : SBlk} (h : SBlk.beq a b = true) : a = b := by
  unfold SBlk.beq at h
  split at h
  · simp only [Bool.and_eq_true, decide_eq_true_eq] at h; rw [SV.eq_of_beqL h.1, h.2]
  · rw [SV.eq_of_beqL h]
  · simp only [beq_iff_eq] at h; rw [h]
  · cases h
noncomputable def blkIn (H : SH) (x : Nat × SBlk) : Bool := match H.get x.1 with | some b => SBlk.beq x.2 b | none => false
noncomputable def mkH : List (Nat × SBlk) → SH
  | [] => .nil
  | (s, b) :: l => (mkH l).set s b
theorem mkH_sub {H : SH} : ∀ {l : List (Nat × SBlk)}, l.all (blkIn H) = true → ∀ s b, (mkH l).get s = some b → H.get s = some b
  | [], _, s, b, h => by simp [mkH, Tr.get_nil] at h
  | (t, c) :: l, hl, s, b, h => by
    simp only [List.all_cons, Bool.and_eq_true] at hl
    simp only [mkH, Tr.get_set] at h
    split at h
    · rename_i e
      subst e
      cases h
      have := hl.1
      unfold blkIn at this
      split at this
      · rename_i b' hb
        have e : c = b' := SBlk.eq_of_beq this
        subst e
        exact hb
      · cases this
    · exact mkH_sub hl.2 s b h
noncomputable def delH : List (Nat × SBlk) → SH → SH
  | [], H => H
  | (s, _) :: l, H => (delH l H).del s
noncomputable def addH : List (Nat × SBlk) → SH → SH
  | [], H => H
  | (s, b) :: l, H => (addH l H).set s b
theorem delH_get : ∀ {l : List (Nat × SBlk)} {H : SH} {s : Nat} {b : SBlk}, (delH l H).get s = some b → H.get s = some b ∧ (mkH l).get s = none
  | [], H, s, b, h => ⟨h, rfl⟩
  | (t, c) :: l, H, s, b, h => by
    simp only [delH, Tr.get_del] at h
    split at h
    · cases h
    · rename_i e
      obtain ⟨h1, h2⟩ := delH_get h
      exact ⟨h1, by simp only [mkH, Tr.get_set]; rw [if_neg e]; exact h2⟩
theorem addH_get : ∀ {l : List (Nat × SBlk)} {H : SH} {s : Nat} {b : SBlk}, (addH l H).get s = some b → (mkH l).get s = some b ∨ H.get s = some b
  | [], H, s, b, h => .inr h
  | (t, c) :: l, H, s, b, h => by
    simp only [addH, Tr.get_set] at h
    simp only [mkH, Tr.get_set]
    split at h
    · rename_i e; rw [if_pos e]; exact .inl h
    · rename_i e; rw [if_neg e]; exact addH_get h
/-- What is not looked at stays. -/
theorem Stp.frame {E : Val} {ρ ρ' : Rho} {H S : SH} {l : List (Nat × SBlk)} {n n' : Nat} {w w' : World} (r : StR E ρ H n w) (hS : ∀ s b, S.get s = some b → H.get s = some b) {H' : SH} (hk : ∀ s b, H'.get s = some b → (mkH l).get s = some b ∨ (H.get s = some b ∧ S.get s = none))
    (hs : Stp E ρ S n w ρ' (mkH l) n' w') : Stp E ρ H n w ρ' H' n' w' := by
  have rS : StR E ρ S n w := ⟨⟨fun s b h => r.rel.blk s b (hS s b h), fun s t bs bt ps pt k h1 h2 => r.rel.inj s t bs bt ps pt k (hS s bs h1) (hS t bt h2), r.rel.kept, fun k hk ⟨s, b, p, h1, h2, h3, h4⟩ => r.rel.free k hk ⟨s, b, p, hS s b h1, h2, h3, h4⟩⟩, r.fresh⟩
  have hle := hs.mono rS
  have m1 : ∀ k, fpw E ρ S k → fpw E ρ H k := by rintro k ⟨s, b, p, h1, h2, h3, h4⟩; exact ⟨s, b, p, hS s b h1, h2, h3, h4⟩
  have m2 : ∀ k, fp E ρ S k → fp E ρ H k := by rintro k ⟨s, b, p, h1, h3, h4⟩; exact ⟨s, b, p, hS s b h1, h3, h4⟩
  have apart : ∀ s b p, H.get s = some b → S.get s = none → ρ s = some p → ∀ k, foot E b p k → ¬ fp E ρ S k := by
    rintro s b p h1 h2 h3 k hk ⟨t, bt, pt, g1, g2, g3⟩
    have := r.rel.inj s t b bt p pt k h1 (hS t bt g1) h3 g2 hk g3
    subst this
    rw [h2] at g1; cases g1
  have fw : ∀ k, fpw E ρ S k → fp E ρ S k := by rintro k ⟨s, b, p, h1, _, h3, h4⟩; exact ⟨s, b, p, h1, h3, h4⟩
  have old0 : ∀ s b p, H.get s = some b → ρ' s = some p → ρ s = some p := by
    intro s b p h1 h2
    obtain ⟨q, hq, _⟩ := r.rel.blk s b h1
    have := hle _ _ hq
    rw [h2] at this; cases this; exact hq
  have clw0 : ∀ k, fpw E ρ' H' k → fpw E ρ H k ∨ w.heap.size ≤ k := by
    rintro k ⟨s, b, p, h1, hw, h2, h3⟩
    rcases hk s b h1 with h1 | ⟨h1, g1⟩
    · exact (hs.clw k ⟨s, b, p, h1, hw, h2, h3⟩).imp (m1 k) id
    · exact .inl ⟨s, b, p, h1, hw, old0 s b p h1 h2, h3⟩
  have old : ∀ s b p, H.get s = some b → ρ' s = some p → ρ s = some p := by
    intro s b p h1 h2
    obtain ⟨q, hq, _⟩ := r.rel.blk s b h1
    have := hle _ _ hq
    rw [h2] at this; cases this; exact hq
  refine ⟨hs.ext, hs.le, hs.fresh, ⟨fun s b h => ?_, fun s t bs bt ps pt k h1 h2 h3 h4 h5 h6 => ?_, hs.rel.kept, r.rel.frees clw0⟩, ⟨hs.fr.os, hs.fr.tape, hs.fr.output, hs.fr.size, fun k hk hn => hs.fr.block k hk (fun h => hn (m1 k h))⟩, ?_, ?_⟩
  · rcases hk s b h with h | ⟨h, h0⟩
    · exact hs.rel.blk s b h
    · obtain ⟨p, hp, hb⟩ := r.rel.blk s b h
      exact ⟨p, hle _ _ hp, hb.mono hle (fun k hk => hs.fr.block _ (hb.ltf hk) (fun hf => apart s b p h h0 hp k hk (fw _ hf)))⟩
  · have mixed : ∀ s t bs bt ps pt, (mkH l).get s = some bs → H.get t = some bt → S.get t = none → ρ' s = some ps → ρ' t = some pt → foot E bs ps k → foot E bt pt k → False := by
      intro s t bs bt ps pt h1 h2 h0 h3 h4 h5 h6
      have h4' := old t bt pt h2 h4
      obtain ⟨q, hq, hb⟩ := r.rel.blk t bt h2
      rw [h4'] at hq; cases hq
      rcases hs.cl k ⟨s, bs, ps, h1, h3, h5⟩ with hf | hf
      · exact apart t bt pt h2 h0 h4' k h6 hf
      · have := hb.ltf h6; omega
    rcases hk s bs h1 with h1 | ⟨h1, g1⟩ <;> rcases hk t bt h2 with h2 | ⟨h2, g2⟩
    · exact hs.rel.inj s t bs bt ps pt k h1 h2 h3 h4 h5 h6
    · exact (mixed s t bs bt ps pt h1 h2 g2 h3 h4 h5 h6).elim
    · exact (mixed t s bt bs pt ps h2 h1 g1 h4 h3 h6 h5).elim
    · exact r.rel.inj s t bs bt ps pt k h1 h2 (old s bs ps h1 h3) (old t bt pt h2 h4) h5 h6
  · rintro k ⟨s, b, p, h1, h2, h3⟩
    rcases hk s b h1 with h1 | ⟨h1, g1⟩
    · exact (hs.cl k ⟨s, b, p, h1, h2, h3⟩).imp (m2 k) id
    · exact .inl ⟨s, b, p, h1, old s b p h1 h2, h3⟩
  · rintro k ⟨s, b, p, h1, hw, h2, h3⟩
    rcases hk s b h1 with h1 | ⟨h1, g1⟩
    · exact (hs.clw k ⟨s, b, p, h1, hw, h2, h3⟩).imp (m1 k) id
    · exact .inl ⟨s, b, p, h1, hw, old s b p h1 h2, h3⟩
structure Cut where
  f : FuncId
  args : List SV
  H0 : List (Nat × SBlk)
  n0 : Nat
  v : SV
  H1 : List (Nat × SBlk)
  n1 : Nat
noncomputable def Cut.check (P : Program) (G : Nat) (B : Base) (c : Cut) : Bool :=
  match (rk ⟨P, {}, G⟩ B 3000).call c.f c.args (mkH c.H0) c.n0 with
  | .ok (v, H, n) => SV.beq c.v v && (n == c.n1 && c.H1.all (blkIn H))
  | .no _ => false
noncomputable def cutBase (c : Cut) : Base :=
  { call := fun f args H n => if (f == c.f && n == c.n0) && (SV.beqL args c.args && c.H0.all (blkIn H)) then some (c.v, addH c.H1 (delH c.H0 H), c.n1) else none }
theorem cutBase_ok {P : Program} {G : Nat} {B : Base} {c : Cut} {E : Val} (h : c.check P G B = true) (hB : BaseOk ⟨P, {}, G⟩ E B) (A : Asm) : BaseOk ⟨P, A, G⟩ E (cutBase c) := by
  refine ⟨fun f args H n v H' n' hc ρ w as r hg ha => ?_, fun _ _ _ _ _ h => by cases h⟩
  simp only [cutBase] at hc
  split at hc
  case isFalse => cases hc
  rename_i hq
  simp only [Bool.and_eq_true, beq_iff_eq] at hq
  obtain ⟨⟨rfl, rfl⟩, hargs, hH⟩ := hq
  cases hc
  rw [SV.eq_of_beqL hargs] at ha
  unfold Cut.check at h
  split at h
  case h_2 => cases h
  rename_i v1 Hf nf he
  simp only [Bool.and_eq_true, beq_iff_eq] at h
  obtain ⟨hv, hn, h1⟩ := h
  have hA0 : Asm.Holds ({} : Asm) E.I := ⟨fun _ _ _ _ h => (by cases h), fun _ _ h => (by cases h)⟩
  have sub := mkH_sub hH
  have r0 : StR E ρ (mkH c.H0) c.n0 w := ⟨⟨fun s b hs => r.rel.blk s b (sub s b hs), fun s t bs bt ps pt k h1 h2 => r.rel.inj s t bs bt ps pt k (sub s bs h1) (sub t bt h2), r.rel.kept, fun k hk ⟨s, b, p, h1, h2, h3, h4⟩ => r.rel.free k hk ⟨s, b, p, sub s b h1, h2, h3, h4⟩⟩, r.fresh⟩
  have hk := reckon (C := ⟨P, {}, G⟩) hA0 hB 3000 he r0 hg ha
  refine (callsIn_wide (n := 0)).1 (CallsIn.mono ((callsIn_wide (n := 0)).2 hk) ?_)
  rintro e w' ⟨u, ρ', rfl, hs, hd⟩
  have hs' := hs.less (mkH_sub h1)
  refine ⟨u, ρ', rfl, ?_, by rw [SV.eq_of_beq hv]; exact hd⟩
  rw [← hn]
  refine hs'.frame r sub (fun s b hb => ?_)
  rcases addH_get hb with h | h
  · exact .inl h
  · exact .inr (delH_get h)
/-! ### Tables hold literals -/
noncomputable def SV.isLit : SV → Bool
  | .bool _ => true
  | .str _ => true
  | .int _ (.lit _) => true
  | _ => false
theorem DenL.lits {E E' : Val} {ρ ρ' : Rho} : ∀ {l : List SV} {us : List Value}, l.all SV.isLit = true → DenL E ρ l us → DenL E' ρ' l us
  | [], us, _, h => h
  | v :: l, us, hl, ⟨u, t, h1, h2, h3⟩ => by
    simp only [List.all_cons, Bool.and_eq_true] at hl
    refine ⟨u, t, ?_, DenL.lits hl.2 h2, h3⟩
    cases v <;> try (simp [SV.isLit] at hl; done)
    case bool => exact h1
    case str => exact h1
    case int k e =>
      cases e <;> try (simp [SV.isLit] at hl; done)
      exact h1
end Go.Proofs.YtfiangiajhdhcaaDoor
