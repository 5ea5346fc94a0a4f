/- The reckoner: a symbolic evaluator of a program, proved sound; one of its texts. No condition. -/
import Derived.Test.YtfiangiajhdhcaaDoorV19
namespace Go.Proofs.YtfiangiajhdhcaaDoor
open Go.RowKit
set_option linter.unusedVariables false
set_option maxRecDepth 100000

section
variable {C : Ctx} {E : Val} {X : Rk} {ops : Array Oper} {N n0 : Nat} {T0 : TM} {A : Acc} {ds : List Nat} {ρ0 ρ : Rho} {H0 : SH} {w0 w : World} {h : Hs} {a : Act}
theorem addA_none {n0 : Nat} {exc : Nat → Bool} {S : SH} : ∀ {al : List (Nat × SBlk)}, addA n0 (fun _ => false) exc S al = S
  | [] => rfl
  | (i, b) :: l => by
    simp only [addA, Bool.false_and, Bool.false_eq_true, if_false]
    exact addA_none
theorem lastW_none {t : Nat} : ∀ {l : List (Option Tmp × SV)} {i : Nat}, lastW (fun _ => false) i l t = none
  | [], _ => rfl
  | (d, v) :: l, i => by simp [lastW, lastW_none (l := l)]
/-- How many are not listed. -/
noncomputable def unl (L : Nat → Bool) : Nat → Nat
  | 0 => 0
  | k + 1 => if L k then unl L k else unl L k + 1
theorem unl_upd {L : Nat → Bool} {i : Nat} (hi : L i = false) : ∀ {n : Nat}, i < n → unl (updL L i) n + 1 = unl L n
  | n + 1, h => by
    have same : ∀ m, m ≤ i → unl (updL L i) m = unl L m := by
      intro m
      induction m with
      | zero => intro _; rfl
      | succ m ih =>
        intro hm
        simp only [unl]
        rw [ih (by omega), updL_other (by omega)]
    simp only [unl]
    by_cases e : n = i
    · subst e
      rw [updL_same, hi, same n (Nat.le_refl _)]
      simp
    · rw [updL_other e]
      have := unl_upd hi (n := n) (by omega)
      split <;> omega
theorem unl_zero {L : Nat → Bool} : ∀ {n : Nat}, unl L n = 0 → ∀ k, k < n → L k = true
  | n + 1, h, k, hk => by
    simp only [unl] at h
    split at h
    · rename_i e
      by_cases q : k = n
      · subst q; exact e
      · exact unl_zero h k (by omega)
    · omega
/-- Where nothing may come any more, all has come. -/
theorem all_listed (D : DCtx X C ops N n0 T0 A) {listed : Array Bool} (hs : listed.size = ops.size) (hr : Region.ready .any ops listed = []) : ∀ k, k < ops.size → listed.getD k false = true := by
  intro k
  induction k using Nat.strongRecOn with
  | _ k ih =>
    intro hk
    cases e : listed.getD k false
    · exfalso
      have : k ∈ Region.ready .any ops listed := by
        rw [mem_ready]
        refine ⟨?_, ops[k], by simp [hk], fun x hx hb => ?_⟩
        · simp only [Array.getD_eq_getD_getElem?] at e ⊢
          have : k < listed.size := by omega
          simp [this] at e ⊢
          exact e
        · obtain ⟨r, h1, h2, h3⟩ := ancs_spec ops.toList []
          have hr := h3 k ops[k] (by simp [hk])
          have hlt := D.lt k
          have hbit : (ancAt (ancs ops.toList []) k).testBit x.on = true := by
            unfold ancAt
            rw [h1]
            simp only [List.nil_append] at hr ⊢
            rw [hr]
            exact ancOne_on (by simpa using hx) hb
          have hon : x.on < k := by
            by_cases q : x.on < k
            · exact q
            · have := Nat.testBit_lt_two_pow (Nat.lt_of_lt_of_le hlt (Nat.pow_le_pow_right (by omega) (Nat.le_of_not_lt q)))
              rw [this] at hbit; cases hbit
          exact ih x.on hon (by omega)
      rw [hr] at this; cases this
    · rfl
theorem wpAny_ok (hA : C.A.Holds E.I) (hX : CodeOk C E X) (hC : CallOk C E X) (D : DCtx X C ops N n0 T0 A) (ro : Option Nat) (m : Nat) {Q : Exit → Act → World → Prop}
    (hQ : ∀ L ρ h a w, (∀ k, k < ops.size → L k = true) → DInv C E ops N n0 T0 A ds ρ0 H0 w0 L ρ h a w → Q .normal a w) :
    ∀ (fuel : Nat) (listed : Array Bool) (ρ : Rho) (h : Hs) (a : Act) (w : World), listed.size = ops.size → unl (fun k => listed.getD k false) ops.size ≤ fuel → ClosedL ops (fun k => listed.getD k false) →
      DInv C E ops N n0 T0 A ds ρ0 H0 w0 (fun k => listed.getD k false) ρ h a w → wpAnyIn (Fo ro) m C.P .any ops Q fuel listed a w := by
  intro fuel
  induction fuel with
  | zero =>
    intro listed ρ h a w hs hu hc I
    have hall := unl_zero (Nat.le_zero.1 hu)
    refine ⟨?_, hQ _ ρ h a w hall I⟩
    rw [List.eq_nil_iff_forall_not_mem]
    intro j hj
    rw [mem_ready] at hj
    obtain ⟨h0, o, ho, _⟩ := hj
    have hlt := (Array.getElem?_eq_some_iff.1 ho).1
    have := hall j hlt
    simp only [Array.getD_eq_getD_getElem?] at this h0
    have hl : j < listed.size := by omega
    simp [hl] at this h0
    rw [this] at h0; cases h0
  | succ fuel ih =>
    intro listed ρ h a w hs hu hc I
    refine ⟨fun hr => hQ _ ρ h a w (all_listed D hs hr) I, fun i hi => ?_⟩
    rw [mem_ready] at hi
    obtain ⟨h0, o, ho, he⟩ := hi
    have hlt := (Array.getElem?_eq_some_iff.1 ho).1
    have hL : listed.getD i false = false := by
      simp only [Array.getD_eq_getD_getElem?] at h0 ⊢
      have hl : i < listed.size := by omega
      simp [hl] at h0 ⊢
      exact h0
    have r : Ready ops (fun k => listed.getD k false) i o := ⟨ho, hL, hc, anc_sub hc i o ho he⟩
    have eL : (fun k => (listed.setIfInBounds i true).getD k false) = updL (fun k => listed.getD k false) i := by
      funext k
      simp only [updL]
      by_cases e : k = i
      · subst e
        have hl : k < listed.size := by omega
        simp [hl]
      · rw [getD_set_ne false (fun q => e q.symm)]; simp [e]
    refine draw_step hA hX hC D I r ro m (fun ρ' h' a' w' I' => ?_)
    refine ih _ ρ' h' a' w' (by simpa using hs) ?_ ?_ (by rw [eL]; exact I')
    · rw [eL]
      have := unl_upd (L := fun k => listed.getD k false) hL hlt
      omega
    · intro j o' hj ho' e hem hb
      simp only at hj ⊢
      by_cases q : j = i
      · subst q
        rw [ho] at ho'; cases ho'
        exact getD_set_true (he e hem hb)
      · rw [getD_set_ne false (fun z => q z.symm)] at hj
        exact getD_set_true (hc j o' hj ho' e hem hb)
theorem region_draw_ok (hA : C.A.Holds E.I) (hX : CodeOk C E X) (hC : CallOk C E X) {id m : Nat} {ro : Option Nat} {st st' : CSt} (hc : CRel C E ρ st a w) (hr : evDraw X C ops st = .ok st') :
    (Code.region id ops true).wpIn (Fo ro) m C.P (CodePost C E ρ st w .normal st') a w := by
  obtain ⟨T0, N0, H0, n00, ds0⟩ := st
  unfold evDraw at hr
  simp only [drawOps'_eq] at hr
  split at hr
  case isFalse => cases hr
  rename_i hmix
  split at hr
  case isFalse => cases hr
  rename_i hnm
  simp only [R.bind_ok] at hr
  obtain ⟨A, hA', hr⟩ := hr
  split at hr
  case isFalse => cases hr
  rename_i hlo
  split at hr
  case isFalse => cases hr
  rename_i hfr
  cases hr
  obtain ⟨rr, a1, a2, a3⟩ := ancs_spec ops.toList []
  simp only [List.nil_append] at a1 a3
  have hnames : ∀ j o, ops[j]? = some o → ∃ anc, (ancs ops.toList [])[j]? = some anc ∧ anc < 2 ^ j ∧ ∀ k o', ops[k]? = some o' → k < j → clash (o'.dst, reads ops o') (o.dst, reads ops o) = true → anc.testBit k = true := by
    intro j o ho
    obtain ⟨anc, n1, n2, n3⟩ := namesOk_spec (old := []) (i := 0) rfl hnm j (o.dst, reads ops o) (by simp [namesL, ho])
    refine ⟨anc, n1, by simpa using n2, fun k o' ho' hk hcl => n3 k (o'.dst, reads ops o') (by simp [namesL, ho']) (by omega) hcl⟩
  have hlt : ∀ k b, (ancs ops.toList [])[k]? = some b → b < 2 ^ k := by
    intro k b hb
    have hk : k < ops.size := by
      have := (List.getElem?_eq_some_iff.1 hb).1
      rw [a1, a2] at this; simpa using this
    obtain ⟨anc, n1, n2, _⟩ := hnames k ops[k] (by simp [hk])
    rw [hb] at n1; cases n1; exact n2
  have hok0 : AccOk (ancs ops.toList []) T0 0 { T := T0, ws := [], ls := [], al := [], cur := { S := H0, n := n00 + ops.size, ab := 0, mn := 0 }, hist := [{ S := H0, n := n00 + ops.size, ab := 0, mn := 0 }] } := by
    refine ⟨rfl, fun t => by simp [lastW], by simp, ?_, by simp, by simp, ?_, ?_, by simp, ?_⟩
    · intro h hh k hk
      simp at hh; subst hh; simp at hk
    · intro h hh k hk
      simp at hh; subst hh; simp at hk
    · intro h hh k hk
      simp at hh; subst hh; simp at hk
    · intro h h' hh hh' _
      simp at hh hh'; rw [hh, hh']
  obtain ⟨g1, g2, g3⟩ := drawOps_ok hok0 (fun k => by simp) hlt hA'
  simp only [Nat.zero_add] at g1 g3
  have hsz : ops.toList.length = ops.size := by simp
  rw [hsz] at g1
  have D : DCtx X C ops N0 n00 T0 A := by
    refine ⟨g1, fun i o ho => g3 i o (by simpa using ho), ?_, ?_, ?_, ?_⟩
    · intro i k o o' ho ho' hki hcl
      obtain ⟨anc, n1, n2, n3⟩ := hnames i o ho
      have := n3 k o' ho' hki hcl
      simpa [ancAt, n1] using this
    · intro i
      cases e : (ancs ops.toList [])[i]? with
      | none => simp only [ancAt, e, Option.getD_none]; exact Nat.two_pow_pos i
      | some b => simp only [ancAt, e, Option.getD_some]; exact hlt i b e
    · intro h hh i b hb hab
      have h1 := List.all_eq_true.1 (List.all_eq_true.1 hfr h hh) (i, b) hb
      simp only [hab, Bool.false_or, Option.isNone_iff_eq_none] at h1
      exact h1
    · intro i t x v anc hm h hh hw
      have h1 := List.all_eq_true.1 (List.all_eq_true.1 hlo (i, t, x, v, anc) hm) h hh
      simp only [hw, Bool.not_true, Bool.false_or] at h1
      split at h1
      · rename_i u hu
        rw [hu, SV.eq_of_beq h1]
      · cases h1
  have hno : ∀ k, (Array.replicate ops.size false).getD k false = false := by
    intro k
    simp only [Array.getD_eq_getD_getElem?, Array.getElem?_replicate]
    split <;> rfl
  have hlw : ∀ (l : List (Option Tmp × SV)) (i t : Nat), lastW (fun k => (Array.replicate ops.size false).getD k false) i l t = none := by
    intro l i t
    rw [show (fun k => (Array.replicate ops.size false).getD k false) = fun _ => false from funext hno]
    exact lastW_none
  have hadd : ∀ (exc : Nat → Bool) (S : SH) (al : List (Nat × SBlk)), addA n00 (fun k => (Array.replicate ops.size false).getD k false) exc S al = S := by
    intro exc S al
    rw [show (fun k => (Array.replicate ops.size false).getD k false) = fun _ => false from funext hno]
    exact addA_none
  have I0 : DInv C E ops N0 n00 T0 A ds0 ρ H0 w (fun k => (Array.replicate ops.size false).getD k false) ρ { S := H0, n := n00 + ops.size, ab := 0, mn := 0 } a w.drew := by
    refine ⟨g2.hist _ (by simp), fun k => by rw [hno]; simp, fun t => ?_, hc.tm.size, hc.ds, hc.glo, ?_, fun s hs => hc.sr.fresh s (by simp only at hs ⊢; omega), Nat.le_refl _, fun i b _ _ => hc.sr.fresh _ (by simp only; omega), fun _ _ => rfl, ⟨rfl, rfl, rfl, Nat.le_refl _, fun _ _ _ => rfl⟩, ?_, ?_⟩
    · rw [hlw]; exact hc.tm.get t
    · rw [hadd]; exact hc.sr.rel.drew
    · rw [hadd]; exact fun k hk => .inl hk
    · rw [hadd]; exact fun k hk => .inl hk
  refine wpIn_region_any hmix ?_
  refine wpAny_ok (ds := ds0) (ρ0 := ρ) (H0 := H0) (w0 := w) hA hX hC D ro m ?_ ops.size _ ρ _ a w.drew (by simp) ?_ ?_ I0
  · intro L ρ' h a' w' hall I
    have heq : h = A.cur := by
      refine D.ok.uniq _ _ I.hh D.ok.cur ?_
      apply Nat.eq_of_testBit_eq
      intro k
      rw [I.mn k]
      cases e : A.cur.mn.testBit k
      · rfl
      · rw [hall k (D.ok.bits _ D.ok.cur k e)]; rfl
    subst heq
    have e1 : addA n00 (fun _ => true) A.cur.ab.testBit A.cur.S A.al = addA n00 L A.cur.ab.testBit A.cur.S A.al := addA_congr (fun k b hk => (hall k (D.ok.alb k b hk)).symm)
    refine ⟨ρ', rfl, ⟨⟨?_, I.fresh⟩, I.glo, ⟨I.sz, fun t => ?_⟩, I.ds⟩, ⟨I.ext, ?_, I.fresh, ?_, I.fr, ?_, ?_⟩, rfl⟩
    · show HRel E ρ' (addA n00 (fun _ => true) A.cur.ab.testBit A.cur.S A.al) w'
      rw [e1]; exact I.rel
    · have := I.tv t
      show Den E ρ' (A.T.val t) _
      rw [D.ok.tv t]
      rwa [lastW_congr (D' := fun _ => true) (fun k v hk => by
        have hkl := (List.getElem?_eq_some_iff.1 hk).1
        rw [D.ok.len] at hkl
        rw [Nat.zero_add]; exact hall k hkl)] at this
    · have := I.nn
      show n00 ≤ A.cur.n
      omega
    · show HRel E ρ' (addA n00 (fun _ => true) A.cur.ab.testBit A.cur.S A.al) w'
      rw [e1]; exact I.rel
    · intro k hk
      refine I.cl k ?_
      rw [← e1]; exact hk
    · intro k hk
      refine I.clw k ?_
      rw [← e1]; exact hk
  · have : ∀ n, unl (fun k => (Array.replicate ops.size false).getD k false) n ≤ n := by
      intro n
      induction n with
      | zero => exact Nat.le_refl _
      | succ n ih => simp only [unl]; split <;> omega
    exact this _
  · intro j o hj
    simp only [hno] at hj; cases hj
end
end Go.Proofs.YtfiangiajhdhcaaDoor
