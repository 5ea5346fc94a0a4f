/- The reckoner: a symbolic evaluator of a program, proved sound; one of its texts. No condition. -/
import Derived.Test.YtfiangiajhdhcaaDoorV21
namespace Go.Proofs.YtfiangiajhdhcaaDoor
open Go.RowKit
set_option linter.unusedVariables false
set_option maxRecDepth 100000

/-! ### What the reckoner says is so -/
section
variable {C : Ctx} {E : Val}
/-- What is known beforehand is so. -/
structure BaseOk (C : Ctx) (E : Val) (B : Base) : Prop where
  call : ∀ f args H n v H' n', B.call f args H n = some (v, H', n') → ∀ ρ w as, StR E ρ H n w → Glo C.G ρ → DenL E ρ args as →
    Calls C.P f as.toArray w fun e w' => ∃ u ρ', e = .returned u ∧ Stp E ρ H n w ρ' H' n' w' ∧ Den E ρ' v u
  code : ∀ ro c st x st', B.code ro c st = some (x, st') → ∀ ρ w a r, CRel C E ρ st a w → roD ρ ro r → ∀ m, c.wpIn (Fo r) m C.P (CodePost C E ρ st w x st') a w
theorem BaseOk.none (C : Ctx) (E : Val) : BaseOk C E {} := ⟨fun _ _ _ _ _ _ _ h => (by cases h), fun _ _ _ _ _ h => (by cases h)⟩
noncomputable def LoopOk (C : Ctx) (E : Val) (B : Base) (k : Nat) : Prop :=
  ∀ ro b st x st', (rk C B k).loop ro b st = .ok (x, st') → ∀ ρ w a r, CRel C E ρ st a w → roD ρ ro r → ∀ m, Code.roundsIn (Fo r) m C.P b (CodePost C E ρ st w x st') k a w
theorem evRange_ok {X : Rk} (hX : CodeOk C E X) (hC : CallOk C E X) {ro : Option Nat} {f : Operand} {params : Array Tmp} {assign body : Code} {st st' : CSt} {x : SX} (h : evRange X C ro f params assign body st = .ok (x, st'))
    {ρ : Rho} {w : World} {a : Act} {r : Option Nat} (hc : CRel C E ρ st a w) (hr : roD ρ ro r) (m : Nat) : (Code.rangeFunc f params assign body).wpIn (Fo r) m C.P (CodePost C E ρ st w x st') a w := by
  simp only [evRange, R.bind_ok] at h
  obtain ⟨fv, hfv, h⟩ := h
  split at h
  case h_2 => cases h
  rename_i g first cap
  simp only [R.bind_ok, ofOpt_ok] at h
  obtain ⟨_, hcal, ⟨H1, l, ds⟩, hlay, ⟨v, H2, n2⟩, hcall, b, hb, h⟩ := h
  dsimp only at h hb hcall
  split at h
  case h_2 => cases h
  rename_i st2 pend T2 N2 params2 assign2 body2 d2
  split at h
  · cases h
  rename_i hnb
  refine wpIn_rangeFunc (fun fnId _ => ?_)
  -- the record is laid
  have lay : ∃ (lb : Nat) (mark : List Deferred) (w1 : World) (ρ1 : Rho), (Instr.enterLoop fnId a.tmps params assign body r).run C.P w = .ok (lb, mark) w1 ∧ Stp E ρ st.H st.n w ρ1 H1 (l + 1) w1 ∧ (∃ p, ρ1 l = some p ∧ p.b = lb) ∧ DsR ρ1 ds (mark ++ a.defers) := by
    cases ro with
    | none =>
      obtain rfl : r = none := hr
      cases hlay
      let o1 : Obj := .deferred (some [])
      have s1 : Stp E ρ st.H st.n w (ρ.upd st.n ⟨w.heap.size, 0, 0, undef⟩) (st.H.set st.n (.dfr false)) (st.n + 1) (w.alloc o1) := Stp.alloc hc.sr o1 (show (w.alloc o1).heap[w.heap.size]? = some (.deferred (some [])) from heap_push w o1)
      let lp : Loop := { state := .ready, pending := none, fn := fnId, tmps := a.tmps, params := params, assign := assign, body := body, defers := w.heap.size }
      have hle1 := s1.mono hc.sr
      have s2 := Stp.alloc (e := 0) s1.to (.loop lp) (b := .loop .ready none st.T st.N params assign body st.n)
        ⟨lp, heap_push _ _, rfl, rfl, hc.tm.mono (hle1.trans (Rho.le_upd (s1.fresh _ (Nat.le_refl _)))), rfl, rfl, rfl, ⟨w.heap.size, 0, 0, undef⟩, (Rho.upd_other _ _ (by omega)).trans (Rho.upd_same _ _ _), rfl⟩
      refine ⟨(w.alloc o1).heap.size, [{ target := .collected w.heap.size, args := #[] }], (w.alloc o1).alloc (.loop lp), _, ?_, s1.trans s2, ⟨_, Rho.upd_same _ _ _, rfl⟩, ?_⟩
      · simp [Instr.enterLoop, Sem.run_bind, o1, lp]
      · exact .cons (p := ⟨w.heap.size, 0, 0, undef⟩) ((Rho.upd_other _ _ (by omega)).trans (Rho.upd_same _ _ _)) (hc.ds.mono (hle1.trans (Rho.le_upd (s1.fresh _ (Nat.le_refl _)))))
    | some s =>
      obtain ⟨p, hp, rfl⟩ := hr
      simp only [R.bind_ok, ofOpt_ok] at hlay
      obtain ⟨b0, hb0, hlay⟩ := hlay
      split at hlay
      case h_2 => cases hlay
      rename_i d0
      cases hlay
      obtain ⟨q, hq, lp0, l1, l2, l3, l4, l5, l6, l7, q0, l8, l9⟩ := hc.sr.rel.blk _ _ hb0
      rw [hp] at hq; cases hq
      let lp : Loop := { state := .ready, pending := none, fn := fnId, tmps := a.tmps, params := params, assign := assign, body := body, defers := lp0.defers }
      have hle : ρ.le (ρ.upd st.n ⟨w.heap.size, 0, 0, undef⟩) := Rho.le_upd (hc.sr.fresh _ (Nat.le_refl _))
      have s1 := Stp.alloc (e := 0) hc.sr (.loop lp) (b := .loop .ready none st.T st.N params assign body d0)
        ⟨lp, heap_push _ _, rfl, rfl, hc.tm.mono hle, rfl, rfl, rfl, q0, hle _ _ l8, l9⟩
      refine ⟨w.heap.size, [], w.alloc (.loop lp), _, ?_, s1, ⟨_, Rho.upd_same _ _ _, rfl⟩, hc.ds.mono hle⟩
      have hgl : (Instr.getLoop p.b).run C.P w = .ok lp0 w := by simp [Instr.getLoop, Sem.run_bind, getObj, Sem.run, l1]
      simp [Instr.enterLoop, Sem.run_bind, hgl, lp]
  obtain ⟨lb, mark, w1, ρ1, k1, k2, ⟨p, k3, k4⟩, k5⟩ := lay
  have hle1 := k2.mono hc.sr
  obtain ⟨y, z, hy, hz, hf⟩ := (evalO_ok hc.tm hc.glo f _ hfv)
  have hargs : DenL E ρ1 (first ++ [.yield l] ++ cap) (y ++ [.func (.yield lb) #[] #[]] ++ z) :=
    ((hy.mono hle1).append (DenL.cons (show Den E ρ1 (.yield l) (.func (.yield lb) #[] #[]) from ⟨p, k3, by rw [k4]⟩) DenL.nil)).append (hz.mono hle1)
  have hcc := hC _ _ _ _ _ _ _ hcall ρ1 w1 _ k2.to (hc.glo.mono hle1) hargs
  refine ⟨lb, mark, w1, { target := .fn (.func g) z.toArray, args := y.toArray ++ #[.func (.yield lb) #[] #[]] }, w1, g, y.toArray ++ #[.func (.yield lb) #[] #[]] ++ z.toArray, w1, k1, ?_, fun _ _ => trivial, ?_, fun hd => by simp [Fo, Fence.wide] at hd, ?_⟩
  · simp only [resolve]
    rw [hf]
    simp [Deferred.ofValue, Act.eval]
  · simp [invoke, callee_ok hcal]
  · have e1 : (y ++ [Value.func (.yield lb) #[] #[]] ++ z).toArray = y.toArray ++ #[Value.func (.yield lb) #[] #[]] ++ z.toArray := by apply Array.ext'; simp
    rw [e1] at hcc
    refine CallsIn.mono (calls_fo r hcc) ?_
    rintro e w2 ⟨u, ρ2, rfl, s2, _⟩
    have hp2 : ρ2 l = some p := (s2.mono k2.to) _ _ k3
    obtain ⟨q, hq, lp, l1, l2, l3, l4, l5, l6, l7, l8⟩ := s2.rel.blk _ _ hb
    rw [hp2] at hq; cases hq
    rw [← k4]
    have hgl : (Instr.getLoop p.b).run C.P w2 = .ok lp w2 := by simp [Instr.getLoop, Sem.run_bind, getObj, Sem.run, l1]
    let w3 : World := { w2 with heap := w2.heap.setIfInBounds p.b (.loop { lp with state := .exhausted }) }
    have hlt := heap_lt l1
    have o3 : WOnly p.b w2 w3 := ⟨rfl, rfl, rfl, by simp [w3], fun k hk => by simp only [w3]; rw [Array.getElem?_setIfInBounds, if_neg (fun e => hk e.symm)]⟩
    have e3 : w3.heap[p.b]? = some (.loop { lp with state := .exhausted }) := by simp [w3, hlt]
    have s3 : Stp E ρ2 H2 n2 w2 ρ2 (H2.set l (.loop .exhausted pend T2 N2 params2 assign2 body2 d2)) n2 w3 := Stp.write s2.to hb hp2 o3 ⟨_, e3, rfl, l3, l4, l5, l6, l7, l8⟩
    have hle2 := s2.mono k2.to
    have sAll := (k2.trans s2).trans s3
    have hst : CRel C E ρ2 ⟨st.T, st.N, H2.set l (.loop .exhausted pend T2 N2 params2 assign2 body2 d2), n2, ds⟩ { a with defers := mark ++ a.defers } w3 :=
      ⟨s3.to, hc.glo.mono (hle1.trans hle2), hc.tm.mono (hle1.trans hle2), k5.mono hle2⟩
    have hnb' : ¬ lp.state = .busy := fun e => hnb (by rw [← l2]; exact e)
    refine ⟨pend, w3, ?_, ?_⟩
    · have : (lp.state == LoopState.busy) = false := by simpa using hnb'
      simp [Instr.endLoop, Sem.run_bind, hgl, hnb', setObj, Sem.run, l1, l3, w3]
    · cases pend with
      | none => cases h; exact ⟨ρ2, rfl, hst, sAll, rfl⟩
      | some c =>
        exact wpIn_mono (hX _ _ _ _ _ h ρ2 w3 _ r hst (roD_mono (hle1.trans hle2) hr) m) (fun e a' w' hp => post_trans (st := st) (st1 := ⟨st.T, st.N, H2.set l (.loop .exhausted (some c) T2 N2 params2 assign2 body2 d2), n2, ds⟩) sAll rfl hp)
theorem evCode_ok (hA : C.A.Holds E.I) {B : Base} (hB : BaseOk C E B) {k : Nat} (hX : CodeOk C E (rk C B k)) (hC : CallOk C E (rk C B k)) (hL : LoopOk C E B k) : CodeOk C E (rk C B (k + 1)) ∧ LoopOk C E B (k + 1) := by
  have loop : LoopOk C E B (k + 1) := by
    intro ro b st x st' h ρ w a r hc hr m
    simp only [rk, evLoop, R.bind_ok] at h
    obtain ⟨⟨x1, st1⟩, h1, h⟩ := h
    dsimp only at h
    refine wpIn_mono (hX _ _ _ _ _ h1 ρ w a r hc hr m) ?_
    rintro e a1 w1 ⟨ρ1, rfl, k1, k2, k3⟩
    have hle := k2.mono hc.sr
    cases x1 with
    | normal => exact roundsIn_mono (fun e a w hp => post_trans k2 k3 hp) (hL _ _ _ _ _ h ρ1 w1 a1 r k1 (roD_mono hle hr) m)
    | exit id => cases h; exact ⟨ρ1, rfl, k1, k2, k3⟩
    | goto l => cases h; exact ⟨ρ1, rfl, k1, k2, k3⟩
    | ret => cases h; exact ⟨ρ1, rfl, k1, k2, k3⟩
  refine ⟨?_, loop⟩
  intro ro c st x st' h ρ w a r hc hr m
  simp only [rk] at h
  split at h
  · rename_i r' hb
    cases h
    exact hB.code _ _ _ _ _ hb ρ w a r hc hr m
  rename_i hnone
  clear hnone
  unfold evCode at h
  split at h
  · cases h; exact wpIn_skip ⟨ρ, rfl, hc, .refl hc.sr, rfl⟩
  · cases h; exact wpIn_label ⟨ρ, rfl, hc, .refl hc.sr, rfl⟩
  · rename_i id ops draw
    simp only [R.bind_ok] at h
    obtain ⟨st1, h1, h⟩ := h
    cases h
    cases draw
    · simp only [Bool.false_eq_true, if_false] at h1; exact region_ok hA hX hC hc h1
    · simp only [if_true] at h1; exact region_draw_ok hA hX hC hc h1
  · rename_i p q
    simp only [R.bind_ok] at h
    obtain ⟨⟨x1, st1⟩, h1, h⟩ := h
    dsimp only at h
    refine wpIn_seq (wpIn_mono (hX _ _ _ _ _ h1 ρ w a r hc hr m) ?_)
    rintro e a1 w1 ⟨ρ1, rfl, k1, k2, k3⟩
    have hle := k2.mono hc.sr
    cases x1 with
    | normal => exact wpIn_mono (hX _ _ _ _ _ h ρ1 w1 a1 r k1 (roD_mono hle hr) m) (fun e a w hp => post_trans k2 k3 hp)
    | exit id => cases h; exact ⟨ρ1, rfl, k1, k2, k3⟩
    | goto l => cases h; exact ⟨ρ1, rfl, k1, k2, k3⟩
    | ret => cases h; exact ⟨ρ1, rfl, k1, k2, k3⟩
  · rename_i c p q
    simp only [R.bind_ok] at h
    obtain ⟨v, hv, h⟩ := h
    split at h
    · rename_i t
      have ht : a.eval c = .bool t := evalO_ok hc.tm hc.glo c _ hv
      exact wpIn_cond ht (hX _ _ _ _ _ h ρ w a r hc hr m)
    · rename_i e
      simp only [R.bind_ok] at h
      obtain ⟨t, htc, h⟩ := h
      have ht : a.eval c = .bool t := by
        have h1 : a.eval c = .bool (e.den E.I == 1) := evalO_ok hc.tm hc.glo c _ hv
        have h2 := cmpI_ok hA htc
        simp only [cmpD, IE.den] at h2
        rw [h1, h2]
      exact wpIn_cond ht (hX _ _ _ _ _ h ρ w a r hc hr m)
    · cases h
  · rename_i id b
    simp only [R.bind_ok] at h
    obtain ⟨⟨x1, st1⟩, h1, h⟩ := h
    dsimp only at h
    refine wpIn_block (wpIn_mono (hX _ _ _ _ _ h1 ρ w a r hc hr m) ?_)
    rintro e a1 w1 ⟨ρ1, rfl, k1, k2, k3⟩
    cases x1 with
    | normal => cases h; exact ⟨ρ1, rfl, k1, k2, k3⟩
    | exit j =>
      cases h
      simp only [SX.den, Exit.inBlock]
      split
      · rename_i e; subst e; exact ⟨ρ1, by simp [SX.den], k1, k2, k3⟩
      · rename_i e; exact ⟨ρ1, by simp [SX.den], k1, k2, k3⟩
    | goto l => cases h; exact ⟨ρ1, rfl, k1, k2, k3⟩
    | ret => cases h; exact ⟨ρ1, rfl, k1, k2, k3⟩
  · rename_i b
    exact wpIn_loop_rounds (k + 1) (loop ro b st x st' h ρ w a r hc hr m)
  · exact evRange_ok hX hC h hc hr m
  · cases h; exact wpIn_exit ⟨ρ, rfl, hc, .refl hc.sr, rfl⟩
  · rename_i b
    simp only [R.bind_ok] at h
    obtain ⟨⟨x1, st1⟩, h1, h⟩ := h
    dsimp only at h
    refine wpIn_scope (wpIn_mono (hX _ _ _ _ _ h1 ρ w a r hc hr m) ?_)
    rintro e a1 w1 ⟨ρ1, rfl, k1, k2, k3⟩
    cases x1 with
    | normal => cases h; exact ⟨ρ1, rfl, k1, k2, k3⟩
    | exit j => cases h; exact ⟨ρ1, rfl, k1, k2, k3⟩
    | goto l => cases h
    | ret => cases h; exact ⟨ρ1, rfl, k1, k2, k3⟩
  · cases h; exact wpIn_goto ⟨ρ, rfl, hc, .refl hc.sr, rfl⟩
  · cases h; exact wpIn_ret ⟨ρ, rfl, hc, .refl hc.sr, rfl⟩
  · cases h
theorem evCallF_ok (hA : C.A.Holds E.I) {X : Rk} (hX : CodeOk C E X) {f : FuncId} {args : List SV} {H : SH} {n : Nat} {v : SV} {H' : SH} {n' : Nat} (h : evCallF X C f args H n = .ok (v, H', n')) {ρ : Rho} {w : World} {as : List Value} (r : StR E ρ H n w) (hg : Glo C.G ρ) (ha : DenL E ρ args as) :
    Calls C.P f as.toArray w fun e w' => ∃ u ρ', e = .returned u ∧ Stp E ρ H n w ρ' H' n' w' ∧ Den E ρ' v u := by
  simp only [evCallF, R.bind_ok, ofOpt_ok] at h
  obtain ⟨fn, hfn, c, hc, ⟨x, st⟩, hcode, h⟩ := h
  dsimp only at h
  split at h
  case isFalse => cases h
  rename_i hx
  simp only [R.bind_ok] at h
  obtain ⟨H1, hH1, vs, hvs, h⟩ := h
  cases h
  have hal := ha.length
  have htm : TRel E ρ (enterT 0 args .nil) (args.length + (fn.ntmps - args.length)) (as.toArray ++ Array.replicate (fn.ntmps - as.toArray.size) undef) := by
    have h0 : TRel E ρ (.nil : TM) (args.length + (fn.ntmps - args.length)) (Array.replicate (args.length + (fn.ntmps - args.length)) undef) := by
      refine ⟨by simp, fun t => ?_⟩
      have : (Array.replicate (args.length + (fn.ntmps - args.length)) undef).getD t undef = undef := by
        simp only [Array.getD_eq_getD_getElem?, Array.getElem?_replicate]
        split <;> rfl
      rw [this]
      exact ⟨[], rfl, rfl⟩
    refine enterT_ok h0 ha (by omega) _ (by simp [hal]) (fun t => ?_)
    have e2 : (Array.replicate (args.length + (fn.ntmps - args.length)) undef).getD t undef = undef := by
      simp only [Array.getD_eq_getD_getElem?, Array.getElem?_replicate]
      split <;> rfl
    rw [e2]
    simp only [Array.getD_eq_getD_getElem?]
    by_cases e : t < args.length
    · rw [if_pos (by omega), Array.getElem?_append_left (by simp; omega)]
      simp [List.getD]
    · rw [if_neg (by omega), Array.getElem?_append_right (by simp; omega), Array.getElem?_replicate]
      split <;> rfl
  refine (callsIn_wide (n := 0)).1 (callsIn_of_wp_marks hfn hc trivial ?_)
  have hw := hX _ _ _ _ _ hcode ρ w { tmps := as.toArray ++ Array.replicate (fn.ntmps - as.toArray.size) undef, defers := [] } none ⟨r, hg, htm, .nil⟩ rfl 0
  refine wpIn_mono hw ?_
  rintro e a1 w1 ⟨ρ1, rfl, k1, k2, k3⟩
  have fin : LeavesInM Fence.wide 0 C.P fn a1.tmps (fun e w' => ∃ u ρ', e = .returned u ∧ Stp E ρ H n w ρ' H' st.n w' ∧ Den E ρ' (oneOr vs) u) a1.defers .returning w1 := by
    refine leave_ok (c := 0) k1.sr k1.ds hH1 (fun w2 s2 => ?_)
    obtain ⟨u, g1, g2⟩ := results_ok (C := C) (fn := fn) hA s2.rel k1.tm hvs
    exact ⟨u, g1, u, ρ1, rfl, k2.trans s2, g2⟩
  cases x with
  | normal => exact fin
  | ret => exact fin
  | exit id => cases hx
  | goto l => cases hx
theorem rk_ok (hA : C.A.Holds E.I) {B : Base} (hB : BaseOk C E B) : ∀ k, CodeOk C E (rk C B k) ∧ CallOk C E (rk C B k) ∧ LoopOk C E B k
  | 0 => by
    refine ⟨?_, ?_, ?_⟩
    · intro ro c st x st' h
      simp [rk] at h
    · intro f args H n v H' n' h
      simp [rk] at h
    · intro ro b st x st' h
      simp [rk] at h
  | k + 1 => by
    obtain ⟨h1, h2, h3⟩ := rk_ok hA hB k
    obtain ⟨g1, g2⟩ := evCode_ok hA hB h1 h2 h3
    refine ⟨g1, ?_, g2⟩
    intro f args H n v H' n' h ρ w as r hg ha
    simp only [rk] at h
    split at h
    · rename_i r' hb
      cases h
      exact hB.call _ _ _ _ _ _ _ hb ρ w as r hg ha
    · exact evCallF_ok hA h1 h r hg ha
/-- **What the reckoner says of a call is so, in every world that fits, whatever is drawn.** -/
theorem reckon (hA : C.A.Holds E.I) {B : Base} (hB : BaseOk C E B) (k : Nat) {f : FuncId} {args : List SV} {H : SH} {n : Nat} {v : SV} {H' : SH} {n' : Nat} (h : (rk C B k).call f args H n = .ok (v, H', n')) {ρ : Rho} {w : World} {as : List Value} (r : StR E ρ H n w) (hg : Glo C.G ρ) (ha : DenL E ρ args as) :
    Calls C.P f as.toArray w fun e w' => ∃ u ρ', e = .returned u ∧ Stp E ρ H n w ρ' H' n' w' ∧ Den E ρ' v u := (rk_ok hA hB k).2.1 f args H n v H' n' h ρ w as r hg ha
end
#print axioms reckon
end Go.Proofs.YtfiangiajhdhcaaDoor
