/- The reckoner: a symbolic evaluator of a program, proved sound; one of its texts. No condition. -/
import Derived.Test.YtfiangiajhdhcaaDoorVF
namespace Go.Proofs.YtfiangiajhdhcaaDoor
open Go.RowKit
set_option linter.unusedVariables false
set_option maxRecDepth 100000

/-! ### Regions in order -/
noncomputable def swanted (ops : Array Oper) (T : TM) (o : Oper) : R Bool :=
  match o.guard with
  | none => .ok true
  | some (j, want) => match (ops[j]?).bind (·.dst) with
    | none => .ok false
    | some d => match T.val d with
      | .bool b => .ok (b == want)
      | .tup [] => .ok false
      | _ => .no "guard"
noncomputable def sPut (o : Oper) (v : SV) (T : TM) (N : Nat) : R TM :=
  match o.dst with
  | none => .ok T
  | some d => if d < N then .ok (T.set d v) else .no "put"
noncomputable def evStep (X : Rk) (C : Ctx) (ops : Array Oper) (o : Oper) : CSt → R CSt
  | ⟨T0, N, H0, n0, ds⟩ =>
    (swanted ops T0 o).bind fun b => if b then (evO' X C (evalO C T0) o.op H0 n0).bind fun (v, H, n) => (sPut o v T0 N).bind fun T => .ok ⟨T, N, H, n, ds⟩
      else (sPut o (.tup []) T0 N).bind fun T => .ok ⟨T, N, H0, n0, ds⟩
noncomputable def evSeq (X : Rk) (C : Ctx) (ops : Array Oper) : List Oper → CSt → R CSt
  | [], st => .ok st
  | o :: os, st => (evStep X C ops o st).bind fun st => evSeq X C ops os st
section
variable {C : Ctx} {E : Val} {ρ : Rho}
theorem swanted_ok {ops : Array Oper} {T : TM} {N : Nat} {tmps : Array Value} {o : Oper} {b : Bool} (ht : TRel E ρ T N tmps) (h : swanted ops T o = .ok b) : Region.wanted o (yielded ops tmps) = b := by
  unfold swanted at h
  unfold Region.wanted
  split at h
  · rename_i hg
    cases h
    rw [hg]
  · rename_i j want hg
    rw [hg]
    simp only [yielded]
    split at h
    · rename_i hd
      cases h
      rw [hd]; rfl
    · rename_i d hd
      rw [hd]
      have hv := ht.get d
      simp only [Option.bind_some]
      split at h
      · rename_i b' hb
        cases h
        rw [hb] at hv
        have e1 : tmps.getD d undef = .bool b' := hv
        have hlt : d < tmps.size := by
          by_cases k : d < tmps.size
          · exact k
          · simp [Array.getD, k, undef] at e1
        have e2 : tmps[d]? = some (.bool b') := by
          simp only [Array.getD, hlt, dif_pos] at e1
          simp [hlt]
          exact e1
        rw [e2]
        cases b' <;> cases want <;> rfl
      · rename_i hb
        cases h
        rw [hb] at hv
        obtain ⟨us, hus, e1⟩ := hv
        cases hus
        by_cases hlt : d < tmps.size
        · have e2 : tmps[d]? = some (.tuple #[]) := by
            simp only [Array.getD, hlt, dif_pos] at e1
            simp [hlt]
            exact e1
          rw [e2]; rfl
        · have e2 : tmps[d]? = none := Array.getElem?_eq_none (Nat.le_of_not_lt hlt)
          rw [e2]; rfl
      · cases h
theorem sPut_ok {o : Oper} {v : SV} {T T' : TM} {N : Nat} {a : Act} {u : Value} (ht : TRel E ρ T N a.tmps) (hv : Den E ρ v u) (h : sPut o v T N = .ok T') : TRel E ρ T' N (a.put o.dst u).tmps := by
  unfold sPut at h
  split at h
  · rename_i hd
    cases h
    rw [hd]; exact ht
  · rename_i d hd
    split at h
    · rename_i hlt
      cases h
      rw [hd]; exact ht.put hlt hv
    · cases h
theorem put_defers (a : Act) (d : Option Tmp) (u : Value) : (a.put d u).defers = a.defers := by cases d <;> rfl
theorem evSeq_ok (hA : C.A.Holds E.I) {X : Rk} (hX : CodeOk C E X) (hC : CallOk C E X) {ops : Array Oper} {m : Nat} {ro : Option Nat} {Q : Exit → Act → World → Prop} : ∀ {os : List Oper} {i : Nat} {st st' : CSt} {ρ : Rho} {a : Act} {w : World},
    CRel C E ρ st a w → (∀ k, ops[i + k]? = os[k]?) → evSeq X C ops os st = .ok st' →
    (∀ ρ' a' w', CRel C E ρ' st' a' w' → Stp E ρ st.H st.n w ρ' st'.H st'.n w' → st'.N = st.N → Q .normal a' w') → wpOpsIn (Fo ro) m C.P ops Q (List.range' i os.length) a w
  | [], i, st, st', ρ, a, w, hc, ho, h, hQ => by
    simp only [evSeq] at h
    cases h
    exact hQ ρ a w hc (.refl hc.sr) rfl
  | o :: os, i, st, st', ρ, a, w, hc, ho, h, hQ => by
    simp only [evSeq, R.bind_ok] at h
    obtain ⟨st1, h1, h2⟩ := h
    have ho0 : ops[i]? = some o := by simpa using ho 0
    have hrest : ∀ k, ops[i + 1 + k]? = os[k]? := fun k => by have := ho (k + 1); simpa [Nat.add_assoc, Nat.add_comm 1 k] using this
    simp only [List.length_cons, List.range'_succ, wpOpsIn, ho0]
    obtain ⟨T0, N0, H0, n00, ds0⟩ := st
    simp only [evStep, evO'_eq, R.bind_ok] at h1
    obtain ⟨b, hb, h1⟩ := h1
    rw [swanted_ok hc.tm hb]
    cases b
    · simp only [Bool.false_eq_true, if_false, R.bind_ok] at h1 ⊢
      obtain ⟨T, hT, h1⟩ := h1
      cases h1
      refine ⟨fun _ _ => trivial, evSeq_ok (st := ⟨T, N0, H0, n00, ds0⟩) hA hX hC ⟨hc.sr, hc.glo, sPut_ok hc.tm (show Den E ρ (.tup []) undef from ⟨[], rfl, rfl⟩) hT, by rw [put_defers]; exact hc.ds⟩ hrest h2 hQ⟩
    · simp only [if_true, R.bind_ok] at h1 ⊢
      obtain ⟨⟨v, H1, n1⟩, hv, T, hT, h1⟩ := h1
      cases h1
      refine evO_ok hA hX hC hc.sr hc.glo (evalO_ok hc.tm hc.glo) hv ro m (fun ρ' w' u hs hd => ?_)
      have hle := hs.mono hc.sr
      refine evSeq_ok (st := ⟨T, N0, H1, n1, ds0⟩) hA hX hC ⟨hs.to, hc.glo.mono hle, sPut_ok (hc.tm.mono hle) hd hT, by rw [put_defers]; exact hc.ds.mono hle⟩ hrest h2 ?_
      exact fun ρ'' a'' w'' k1 k2 k3 => hQ ρ'' a'' w'' k1 (hs.trans k2) k3
theorem region_ok (hA : C.A.Holds E.I) {X : Rk} (hX : CodeOk C E X) (hC : CallOk C E X) {ops : Array Oper} {id m : Nat} {ro : Option Nat} {st st' : CSt} {a : Act} {w : World} (hc : CRel C E ρ st a w)
    (h : evSeq X C ops ops.toList st = .ok st') : (Code.region id ops false).wpIn (Fo ro) m C.P (CodePost C E ρ st w .normal st') a w := by
  refine wpIn_region ?_
  have := evSeq_ok (Q := CodePost C E ρ st w .normal st') (m := m) (ro := ro) hA hX hC (i := 0) hc (fun k => by simp) h (fun ρ' a' w' k1 k2 k3 => ⟨ρ', rfl, k1, k2, k3⟩)
  rw [List.range_eq_range']
  simpa using this
end
end Go.Proofs.YtfiangiajhdhcaaDoor
