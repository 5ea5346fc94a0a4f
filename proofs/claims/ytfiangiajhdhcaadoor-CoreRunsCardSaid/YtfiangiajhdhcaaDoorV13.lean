/- The reckoner: a symbolic evaluator of a program, proved sound; one of its texts. No condition. -/
import Derived.Test.YtfiangiajhdhcaaDoorV12
import Derived.RangeFuncCalls
namespace Go.Proofs.YtfiangiajhdhcaaDoor
open Go.RowKit
set_option linter.unusedVariables false
set_option maxRecDepth 100000

section
variable {C : Ctx} {E : Val} {ρ : Rho} {H : SH} {n : Nat} {w : World}
theorem callee_ok {f : FuncId} {u : Unit} (h : C.callee f = .ok u) (args : Array Value) (w : World) : (callFunc f args).run C.P w = .ok (.enter f args) w := by
  unfold Ctx.callee at h
  split at h
  · rename_i fn hf
    split at h
    · cases h
    · rename_i h1
      split at h
      · cases h
      · rename_i h2
        have h1' : ¬ fn.name = "runtime.NumGoroutine" := by simpa using h1
        have h2' : ¬ fn.body = none := by simpa using h2
        simp [callFunc, Sem.run_bind, hf, h1', h2']
  · cases h
theorem calls_fo {m : Nat} {f : FuncId} {args : Array Value} {R' : Ending → World → Prop} (ro : Option Nat) (h : Calls C.P f args w R') : CallsIn (Fo ro) m C.P f args w R' := by
  have h1 := (callsIn_wide (n := m)).2 h
  cases ro with
  | none => exact h1
  | some l => exact CallsIn.inRound l h1
theorem toArray_app (a b : List Value) (as : Array Value) : #[] ++ as = as := by simp
theorem evFn_ok {X : Rk} (hX : CodeOk C E X) (hC : CallOk C E X) (r : StR E ρ H n w) (hg : Glo C.G ρ) {fv v : SV} {f : Value} {l : List SV} {as : Array Value} {H' : SH} {n' : Nat} (hf : Den E ρ fv f) (ha : DenL E ρ l as.toList)
    (h : evFn X C fv l H n = .ok (v, H', n')) {o : Oper} {a : Act} (ro : Option Nat) (m : Nat) {K : Act → World → Prop} {Q : Exit → Act → World → Prop}
    (hs : (o.semAt ro a.eval).run C.P w = (do let d ← Deferred.ofValue f as; invoke d.target d.args : Sem Next).run C.P w)
    (hK : ∀ ρ' w' u, Stp E ρ H n w ρ' H' n' w' → Den E ρ' v u → K (a.put o.dst u) w') : o.wpIn (Fo ro) m C.P a w K Q := by
  refine ⟨fun _ _ => trivial, ?_⟩
  show o.uponIn (Fo ro) m C.P a K Q ((o.semAt ro a.eval).run C.P w)
  rw [hs]
  unfold evFn at h
  split at h
  · rename_i g first cap
    simp only [R.bind_ok] at h
    obtain ⟨_, hcal, h⟩ := h
    obtain ⟨x, y, hx, hy, rfl⟩ := hf
    have e1 : (do let d ← Deferred.ofValue (.func (.func g) x.toArray y.toArray) as; invoke d.target d.args : Sem Next).run C.P w = .ok (.enter g (x.toArray ++ as ++ y.toArray)) w := by
      simp [Deferred.ofValue, invoke, callee_ok hcal]
    rw [e1]
    have hargs : DenL E ρ (first ++ l ++ cap) (x ++ as.toList ++ y) := (hx.append ha).append hy
    have hc := hC _ _ _ _ _ _ _ h ρ w _ r hg hargs
    have e2 : (x ++ as.toList ++ y).toArray = x.toArray ++ as ++ y.toArray := by apply Array.ext'; simp
    rw [e2] at hc
    refine ⟨fun hd => by simp [Fo, Fence.wide] at hd, CallsIn.mono (calls_fo ro hc) ?_⟩
    rintro e w' ⟨u, ρ', rfl, k1, k2⟩
    exact hK ρ' w' u k1 k2
  · rename_i s
    obtain ⟨p, hp, rfl⟩ := hf
    obtain ⟨g, tmps, assign, body, k1, k2⟩ := evRound_ok hX r hg ha hp h (m - 1)
    have e1 : (do let d ← Deferred.ofValue (.func (.yield p.b) #[] #[]) as; invoke d.target d.args : Sem Next).run C.P w = .ok (.round p.b g tmps assign body) w := by
      simp [Deferred.ofValue, invoke, k1]
    rw [e1]
    refine ⟨fun hd => by simp [Fo, Fence.wide] at hd, ?_⟩
    have k3 : RoundIn (Fo ro) (m - 1) C.P p.b g tmps assign body w fun e w' => ∃ u ρ', e = .returned u ∧ Stp E ρ H n w ρ' H' n' w' ∧ Den E ρ' v u := k2
    refine RoundIn.mono k3 ?_
    rintro e w' ⟨u, ρ', rfl, k4, k5⟩
    exact hK ρ' w' u k4 k5
  · cases h
theorem wpIn_value {o : Oper} {a : Act} {ro : Option Nat} {m : Nat} {K : Act → World → Prop} {Q : Exit → Act → World → Prop} {u : Value} {w' : World} (ho : ∀ c, o.op ≠ .defer c) (h : (execOp a.eval o).run C.P w = .ok (.value u) w')
    (hk : K (a.put o.dst u) w') : o.wpIn (Fo ro) m C.P a w K Q := by
  refine ⟨fun _ _ => trivial, ?_⟩
  rw [Oper.semAt_eq _ _ _ ho, h]
  exact hk
theorem wpIn_skipOp {o : Oper} {a : Act} {ro : Option Nat} {m : Nat} {K : Act → World → Prop} {Q : Exit → Act → World → Prop} {w' : World} (ho : ∀ c, o.op ≠ .defer c) (h : (execOp a.eval o).run C.P w = .ok .skip w')
    (hk : K (a.put o.dst undef) w') : o.wpIn (Fo ro) m C.P a w K Q := by
  refine ⟨fun _ _ => trivial, ?_⟩
  rw [Oper.semAt_eq _ _ _ ho, h]
  exact hk
theorem evInvoke_ok {X : Rk} (hC : CallOk C E X) (r : StR E ρ H n w) (hg : Glo C.G ρ) {rv v : SV} {name : String} {rx : Value} {l : List SV} {as : Array Value} {H' : SH} {n' : Nat} (hf : Den E ρ rv rx) (ha : DenL E ρ l as.toList)
    (h : evInvoke X C rv name l H n = .ok (v, H', n')) {o : Oper} {a : Act} (ro : Option Nat) (m : Nat) {K : Act → World → Prop} {Q : Exit → Act → World → Prop}
    (hs : (o.semAt ro a.eval).run C.P w = (callMethod rx name as).run C.P w)
    (hK : ∀ ρ' w' u, Stp E ρ H n w ρ' H' n' w' → Den E ρ' v u → K (a.put o.dst u) w') : o.wpIn (Fo ro) m C.P a w K Q := by
  refine ⟨fun _ _ => trivial, ?_⟩
  show o.uponIn (Fo ro) m C.P a K Q ((o.semAt ro a.eval).run C.P w)
  rw [hs]
  unfold evInvoke at h
  split at h
  case h_2 => cases h
  rename_i t x
  simp only [R.bind_ok, ofOpt_ok] at h
  obtain ⟨i, hi, me, hme, h⟩ := h
  split at h
  case h_2 => cases h
  rename_i f ptr hfn
  simp only [R.bind_ok] at h
  obtain ⟨d, hd, h⟩ := h
  split at h
  case isFalse => cases h
  rename_i hc
  simp only [R.bind_ok, Bool.and_eq_true] at h hc
  obtain ⟨_, hcal, h⟩ := h
  obtain ⟨vx, hx, rfl⟩ := hf
  have hpath : me.path.toList = [] := by
    have := hc.1
    simp only [Array.isEmpty, decide_eq_true_eq] at this
    simpa using Array.eq_empty_of_size_eq_zero this
  have hinfo := run_typeInfo w (info_ok hi)
  have hun := under_ok w hd
  have e1 : (callMethod (.iface t vx) name as).run C.P w = .ok (.enter f (#[vx] ++ as)) w := by
    simp only [callMethod, Sem.run_bind]
    have hp : (program : Sem Program).run C.P w = .ok C.P w := rfl
    have hm : ∀ k, (method (k + 1) t vx name).run C.P w = .ok (f, vx) w := by
      intro k
      simp only [method, Sem.run_bind, hinfo, Result.andThen_ok, hme, hpath, follow, Sem.run_pure, hfn]
      have : (receiverAt t (.val vx) ptr (if me.path.isEmpty then some ((name.splitOn ".").getLastD name) else none)).run C.P w = .ok vx w := by
        simp only [receiverAt, Sem.run_bind, hun, Result.andThen_ok]
        have hc2 := hc.2
        cases d <;> cases ptr <;> first | rfl | (simp [recvOk] at hc2; done)
      rw [this]
      rfl
    rw [hp]
    simp only [Result.andThen_ok]
    rw [show C.P.types.size + Made.depth = (C.P.types.size + 99) + 1 from rfl, hm]
    simp only [Result.andThen_ok]
    exact callee_ok hcal _ _
  rw [e1]
  have hargs : DenL E ρ (x :: l) (vx :: as.toList) := ⟨vx, _, hx, ha, rfl⟩
  have hcc := hC _ _ _ _ _ _ _ h ρ w _ r hg hargs
  have e2 : (vx :: as.toList).toArray = #[vx] ++ as := by apply Array.ext'; simp
  rw [e2] at hcc
  refine ⟨fun hd => by simp [Fo, Fence.wide] at hd, CallsIn.mono (calls_fo ro hcc) ?_⟩
  rintro e w' ⟨u, ρ', rfl, k1, k2⟩
  exact hK ρ' w' u k1 k2
theorem evO_ok (hA : C.A.Holds E.I) {X : Rk} (hX : CodeOk C E X) (hC : CallOk C E X) (r : StR E ρ H n w) (hg : Glo C.G ρ) {e : Operand → R SV} {a : Act} (he : ∀ x v, e x = .ok v → Den E ρ v (a.eval x)) {o : Oper} {v : SV} {H' : SH} {n' : Nat}
    (h : evO X C e o.op H n = .ok (v, H', n')) (ro : Option Nat) (m : Nat) {K : Act → World → Prop} {Q : Exit → Act → World → Prop}
    (hK : ∀ ρ' w' u, Stp E ρ H n w ρ' H' n' w' → Den E ρ' v u → K (a.put o.dst u) w') : o.wpIn (Fo ro) m C.P a w K Q := by
  have alloc : ∀ v b, evA C e n o.op = .ok (v, b) → (∀ ρ' w' u, Stp E ρ H n w ρ' (H.set n b) (n + 1) w' → Den E ρ' v u → K (a.put o.dst u) w') → (∀ c, o.op ≠ .defer c) → o.wpIn (Fo ro) m C.P a w K Q := by
    intro v b hv hK hd
    obtain ⟨u, cs, el, k1, k2⟩ := evA_ok hA he hv w
    obtain ⟨k3, k4⟩ := k2 (ρ.upd n ⟨w.heap.size, 0, cs.size, undef⟩) (Rho.le_upd (r.fresh n (Nat.le_refl _))) (Rho.upd_same _ _ _)
    exact wpIn_value hd k1 (hK _ _ _ (Stp.alloc r _ k4 (evA_na hv)) k3)
  have quiet : ∀ v, evQ C e o.op = .ok v → (∀ ρ' w' u, Stp E ρ H n w ρ' H n w' → Den E ρ' v u → K (a.put o.dst u) w') → (∀ c, o.op ≠ .defer c) → o.wpIn (Fo ro) m C.P a w K Q := by
    intro v hv hK hd
    obtain ⟨u, k1, k2⟩ := evQ_ok (w := w) hA he hv
    exact wpIn_value hd k1 (hK _ _ _ (.refl r) k2)
  unfold evO at h
  split at h
  case h_1 t x y ho =>
    simp only [R.bind_ok] at h
    obtain ⟨vx, hx, vy, hy, H1, hs, h⟩ := h
    cases h
    obtain ⟨w', k1, k2⟩ := evStore_ok r (he _ _ hx) (he _ _ hy) hs
    refine wpIn_skipOp (w' := w') (by rw [ho]; simp) ?_ (hK _ _ _ k2 ⟨[], rfl, rfl⟩)
    unfold execOp
    simp [ho, k1]
  case h_2 t x ho =>
    simp only [R.bind_ok] at h
    obtain ⟨vx, hx, v', hv, h⟩ := h
    cases h
    obtain ⟨u, k1, k2⟩ := evLoad_ok hA r.rel (he _ _ hx) hv
    refine wpIn_value (by rw [ho]; simp) ?_ (hK _ _ _ (.refl r) k2)
    unfold execOp
    simp [ho, k1]
  case h_3 ho =>
    simp only [R.bind_ok] at h
    obtain ⟨⟨v', b⟩, hv, h⟩ := h
    cases h
    exact alloc _ _ (ho ▸ hv) hK (by rw [ho]; simp)
  case h_4 ho =>
    simp only [R.bind_ok] at h
    obtain ⟨⟨v', b⟩, hv, h⟩ := h
    cases h
    exact alloc _ _ (ho ▸ hv) hK (by rw [ho]; simp)
  case h_5 ho =>
    simp only [R.bind_ok] at h
    obtain ⟨⟨v', b⟩, hv, h⟩ := h
    cases h
    exact alloc _ _ (ho ▸ hv) hK (by rw [ho]; simp)
  case h_6 ho =>
    simp only [R.bind_ok] at h
    obtain ⟨⟨v', b⟩, hv, h⟩ := h
    cases h
    exact alloc _ _ (ho ▸ hv) hK (by rw [ho]; simp)
  case h_7 c ho =>
    unfold evCall at h
    split at h
    · rename_i hcal
      simp only [R.bind_ok] at h
      obtain ⟨l, hl, h⟩ := h
      split at h
      · rename_i s x
        obtain ⟨us0, us1, hs, ⟨u1, t1, hx, ht1, e1⟩, e2⟩ := mapR_ok he hl
        cases ht1
        have e3 : (c.args.map a.eval).toList = [us0, u1] := by rw [Array.toList_map, e2, e1]
        obtain ⟨u, w', ρ', k1, k2, k3⟩ := evApp_ok (ty := o.type) (as := c.args.map a.eval) r (by rw [← Array.getElem?_toList, e3]; rfl) (by rw [← Array.getElem?_toList, e3]; rfl) hs hx h
        refine wpIn_value (by rw [ho]; simp) ?_ (hK _ _ _ k2 k3)
        unfold execOp
        simp [ho, resolve, hcal, invoke, builtin, k1]
      · cases h
    · rename_i hcal
      simp only [R.bind_ok] at h
      obtain ⟨l, hl, h⟩ := h
      split at h
      · rename_i s
        simp only [R.bind_ok] at h
        obtain ⟨H1, hc1, h⟩ := h
        cases h
        obtain ⟨us0, us1, hs, e1, e2⟩ := mapR_ok he hl
        have e3 : (c.args.map a.eval).toList = us0 :: us1 := by rw [Array.toList_map, e2]
        obtain ⟨w', k1, k2⟩ := evClear_ok (ty := o.type) (as := c.args.map a.eval) r (by rw [← Array.getElem?_toList, e3]; rfl) hs hc1
        refine wpIn_value (by rw [ho]; simp) ?_ (hK _ _ _ k2 ⟨[], rfl, rfl⟩)
        unfold execOp
        simp [ho, resolve, hcal, invoke, builtin, k1]
      · cases h
    · rename_i hcal
      simp only [R.bind_ok] at h
      obtain ⟨l, hl, h⟩ := h
      split at h
      · rename_i s x
        simp only [R.bind_ok] at h
        obtain ⟨H1, hc1, h⟩ := h
        cases h
        obtain ⟨us0, us1, hs, ⟨u1, t1, hx, ht1, e1⟩, e2⟩ := mapR_ok he hl
        cases ht1
        have e3 : (c.args.map a.eval).toList = [us0, u1] := by rw [Array.toList_map, e2, e1]
        obtain ⟨w', k1, k2⟩ := evDelete_ok (ty := o.type) (as := c.args.map a.eval) hA r (by rw [← Array.getElem?_toList, e3]; rfl) (by rw [← Array.getElem?_toList, e3]; rfl) hs hx hc1
        refine wpIn_value (by rw [ho]; simp) ?_ (hK _ _ _ k2 ⟨[], rfl, rfl⟩)
        unfold execOp
        simp [ho, resolve, hcal, invoke, builtin, k1]
      · cases h
    · rename_i b _ hcal
      simp only [R.bind_ok] at h
      obtain ⟨l, hl, v', hv, h⟩ := h
      cases h
      have hq : evQ C e o.op = .ok v := by
        rw [ho]
        simp only [evQ, hcal, R.bind_ok]
        exact ⟨l, hl, hv⟩
      exact quiet v hq hK (by rw [ho]; simp)
    · rename_i f hcal
      simp only [R.bind_ok] at h
      obtain ⟨fv, hfv, l, hl, h⟩ := h
      refine evFn_ok hX hC r hg (he _ _ hfv) (as := c.args.map a.eval) (by simpa using mapR_ok he hl) h ro m ?_ hK
      rw [Oper.semAt_eq _ _ _ (by rw [ho]; simp)]
      unfold execOp
      simp [ho, resolve, hcal]
    · rename_i x name hcal
      simp only [R.bind_ok] at h
      obtain ⟨rv, hrv, l, hl, h⟩ := h
      refine evInvoke_ok hC r hg (he _ _ hrv) (as := c.args.map a.eval) (by simpa using mapR_ok he hl) h ro m ?_ hK
      rw [Oper.semAt_eq _ _ _ (by rw [ho]; simp)]
      unfold execOp
      have e4 : (#[a.eval x] ++ c.args.map a.eval).extract 1 (#[a.eval x] ++ c.args.map a.eval).size = c.args.map a.eval := by
        apply Array.ext'
        simp only [Array.toList_extract, Array.toList_map]
        simp [List.extract]
        rw [List.take_of_length_le (by simp)]
      have e5 : (#[a.eval x] ++ c.args.map a.eval)[0]? = some (a.eval x) := by rw [← Array.getElem?_toList]; simp
      simp only [ho, resolve, hcal, Sem.run_bind, Sem.run_pure, Result.andThen_ok, invoke, e4, e5]
  case h_8 | h_9 | h_10 | h_11 | h_12 =>
    rename_i ho
    obtain ⟨u, w', ρ', k1, k2, k3⟩ := evM_ok (o := o) hA r he h
    rcases k3 with k3 | ⟨k3, rfl⟩
    · exact wpIn_value (by rw [ho]; simp) k3 (hK _ _ _ k1 k2)
    · exact wpIn_skipOp (by rw [ho]; simp) k3 (hK _ _ _ k1 k2)
  case h_13 =>
    split at h
    · rename_i v' hv
      cases h
      refine quiet _ hv hK ?_
      intro c hc
      rw [hc] at hv
      simp [evQ] at hv
    · cases h
    · simp only [R.bind_ok] at h
      obtain ⟨v', hv, h⟩ := h
      cases h
      obtain ⟨u, k1, k2⟩ := evSliceH_ok (o := o) hA r he hv
      refine wpIn_value ?_ k1 (hK _ _ _ (.refl r) k2)
      intro c hc
      rw [hc] at hv
      simp [evSliceH] at hv
end
end Go.Proofs.YtfiangiajhdhcaaDoor
