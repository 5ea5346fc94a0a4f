/- The reckoner: a symbolic evaluator of a program, proved sound; one of its texts. No condition. -/
import Derived.Test.YtfiangiajhdhcaaDoorV20
import Derived.RangeFuncLeaves
namespace Go.Proofs.YtfiangiajhdhcaaDoor
open Go.RowKit
set_option linter.unusedVariables false
set_option maxRecDepth 100000

/-! ### Code, calls -/
noncomputable def evRange (X : Rk) (C : Ctx) (ro : Option Nat) (f : Operand) (params : Array Tmp) (assign body : Code) (st : CSt) : R (SX × CSt) :=
  (evalO C st.T f).bind fun fv => match fv with
  | .func g first cap => (C.callee g).bind fun _ =>
    (match ro with
      | none => .ok ((st.H.set st.n (.dfr false)).set (st.n + 1) (.loop .ready none st.T st.N params assign body st.n), st.n + 1, st.n :: st.ds)
      | some s => (ofOpt (st.H.get s) "range: no loop").bind fun b => match b with
        | .loop _ _ _ _ _ _ _ d => .ok (st.H.set st.n (.loop .ready none st.T st.N params assign body d), st.n, st.ds)
        | _ => .no "range: no loop" : R (SH × Nat × List Nat)).bind fun (H1, l, ds) =>
      (X.call g (first ++ [.yield l] ++ cap) H1 (l + 1)).bind fun (_, H2, n2) => (ofOpt (H2.get l) "range: loop").bind fun b => match b with
      | .loop st2 pend T2 N2 params2 assign2 body2 d2 => if st2 = .busy then .no "range: busy" else
        let st' : CSt := ⟨st.T, st.N, H2.set l (.loop .exhausted pend T2 N2 params2 assign2 body2 d2), n2, ds⟩
        match pend with
        | none => .ok (.normal, st')
        | some c => X.code ro c st'
      | _ => .no "range: loop"
  | _ => .no "range: no function"
noncomputable def evLoop (X : Rk) (ro : Option Nat) (b : Code) (st : CSt) : R (SX × CSt) :=
  (X.code ro b st).bind fun (x, st1) => match x with
    | .normal => X.loop ro b st1
    | x => .ok (x, st1)
noncomputable def evCode (X : Rk) (C : Ctx) (ro : Option Nat) (c : Code) (st : CSt) : R (SX × CSt) :=
  match c with
  | .skip => .ok (.normal, st)
  | .label _ => .ok (.normal, st)
  | .region _ ops draw => (if draw then evDraw X C ops st else evSeq X C ops ops.toList st).bind fun st => .ok (.normal, st)
  | .seq a b => (X.code ro a st).bind fun (x, st1) => match x with
    | .normal => X.code ro b st1
    | x => .ok (x, st1)
  | .cond c a b => (evalO C st.T c).bind fun v => match v with
    | .bool t => X.code ro (if t then a else b) st
    | .side e => (cmpI C.A .eql e (.lit 1)).bind fun t => X.code ro (if t then a else b) st
    | _ => .no "cond"
  | .block id b => (X.code ro b st).bind fun (x, st1) => match x with
    | .exit j => .ok (if j = id then .normal else .exit j, st1)
    | x => .ok (x, st1)
  | .loop b => evLoop X ro b st
  | .rangeFunc f params assign body => evRange X C ro f params assign body st
  | .exit id => .ok (.exit id, st)
  | .scope b => (X.code ro b st).bind fun (x, st1) => match x with
    | .goto _ => .no "goto"
    | x => .ok (x, st1)
  | .goto l => .ok (.goto l, st)
  | .ret => .ok (.ret, st)
  | .refuse _ => .no "refuse"
noncomputable def enterT : Nat → List SV → TM → TM
  | _, [], T => T
  | i, v :: l, T => enterT (i + 1) l (T.set i v)
noncomputable def leaveD : List Nat → SH → R SH
  | [], H => .ok H
  | s :: l, H => (ofOpt (H.get s) "leave").bind fun b => match b with
    | .dfr false => leaveD l (H.set s (.dfr true))
    | _ => .no "leave: mark"
noncomputable def evRes (C : Ctx) (T : TM) (H : SH) : List ResultVar → R (List SV)
  | [] => .ok []
  | .tmp t :: l => (evRes C T H l).bind fun vs => .ok (T.val t :: vs)
  | .cell a t :: l => (evLoad C t (T.val a) H).bind fun v => (evRes C T H l).bind fun vs => .ok (v :: vs)
noncomputable def SX.leaves : SX → Bool
  | .normal => true
  | .ret => true
  | _ => false
noncomputable def oneOr : List SV → SV
  | [v] => v
  | vs => .tup vs
noncomputable def evCallF (X : Rk) (C : Ctx) (f : FuncId) (args : List SV) (H : SH) (n : Nat) : R (SV × SH × Nat) :=
  (ofOpt C.P.funcs[f]? "call: none").bind fun fn => (ofOpt fn.body "call: body").bind fun c =>
    (X.code none c ⟨enterT 0 args .nil, args.length + (fn.ntmps - args.length), H, n, []⟩).bind fun (x, st) =>
      if x.leaves = true then
        (leaveD st.ds st.H).bind fun H' => (evRes C st.T H' fn.results.toList).bind fun vs => .ok (oneOr vs, H', st.n)
      else .no "call: leaves"
noncomputable def rk (C : Ctx) (B : Base) : Nat → Rk
  | 0 => ⟨fun _ _ _ _ => .no "spent", fun _ _ _ => .no "spent", fun _ _ _ => .no "spent"⟩
  | k + 1 => ⟨fun f args H n => match B.call f args H n with | some r => .ok r | none => evCallF (rk C B k) C f args H n,
    fun ro c st => match B.code ro c st with | some r => .ok r | none => evCode (rk C B k) C ro c st, fun ro b st => evLoop (rk C B k) ro b st⟩
section
variable {C : Ctx} {E : Val} {ρ : Rho} {H : SH} {n : Nat} {w : World}
theorem wpIn_scope {F : Fence} {m : Nat} {P : Program} {Q : Exit → Act → World → Prop} {a : Act} {c : Code} (h : c.wpIn F m P (Exit.noGoto Q) a w) : (Code.scope c).wpIn F m P Q a w := by
  intro b k cs hro hb hr
  have s1 : ∀ {a : Act} {k : List Item} {w : World}, step P (lone (b.atR a (.code (.scope c) :: k)) cs w) = .next (lone (b.atR a (.code c :: .inScope c :: k)) cs w) := step_lone_go (by simp [stepG, stepG.exec, Frame.atR])
  have s2 : ∀ {a : Act} {k : List Item} {w : World}, step P (lone (b.atR a (.inScope c :: k)) cs w) = .next (lone (b.atR a k) cs w) := step_lone_go (by simp [stepG, stepG.exec, Frame.atR])
  have h0 : (lone (b.atR a (.code (.scope c) :: k)) cs w).fenced P F := fenced_calm hb hr rfl
  obtain ⟨e, a₁, w₁, hq, harr⟩ := h b (.inScope c :: k) cs hro hb hr
  cases e with
  | normal => exact ⟨.normal, a₁, w₁, hq, .head h0 s1 (StepsIn.trans harr (.one (fenced_calm hb hr rfl) s2))⟩
  | exit id =>
    have hx : exitTo id (.inScope c :: k) = exitTo id k := by simp [exitTo]
    exact ⟨.exit id, a₁, w₁, hq, fun k' hk => .head h0 s1 (harr.1 k' (by rw [hx]; exact hk)), fun hr' hk => let ⟨k₁, h1, h2⟩ := harr.2 hr' (by rw [hx]; exact hk); ⟨k₁, h1, .head h0 s1 h2⟩⟩
  | goto l => exact hq.elim
  | ret => exact ⟨_, a₁, w₁, hq, .of_steps (.one h0 s1) harr⟩
  | panic ch => exact ⟨_, a₁, w₁, hq, .of_steps (.one h0 s1) harr⟩
  | outgrown => exact ⟨_, a₁, w₁, hq, .of_steps (.one h0 s1) harr⟩
theorem roundsIn_mono {F : Fence} {m : Nat} {P : Program} {Q Q' : Exit → Act → World → Prop} {c : Code} (hq : ∀ e a w, Q e a w → Q' e a w) : ∀ {k : Nat} {a : Act} {w : World}, Code.roundsIn F m P c Q k a w → Code.roundsIn F m P c Q' k a w
  | 0, a, w, h => h
  | k + 1, a, w, h => wpIn_mono h (fun e a w he => by
      cases e with
      | normal => exact roundsIn_mono hq he
      | exit id => exact hq _ _ _ he
      | goto l => exact hq _ _ _ he
      | ret => exact hq _ _ _ he
      | panic ch => exact hq _ _ _ he
      | outgrown => exact hq _ _ _ he)
/-- On behind a piece of code. -/
theorem post_trans {st st1 st' : CSt} {x : SX} {ρ1 : Rho} {w1 : World} (h1 : Stp E ρ st.H st.n w ρ1 st1.H st1.n w1) (hN : st1.N = st.N) {e : Exit} {a : Act} {w' : World} (h : CodePost C E ρ1 st1 w1 x st' e a w') : CodePost C E ρ st w x st' e a w' := by
  obtain ⟨ρ', k1, k2, k3, k4⟩ := h
  exact ⟨ρ', k1, k2, h1.trans k3, k4.trans hN⟩
theorem roD_mono {ρ ρ' : Rho} (h : ρ.le ρ') {ro r : Option Nat} (k : roD ρ ro r) : roD ρ' ro r := by
  cases ro with
  | none => exact k
  | some s => obtain ⟨p, hp, e⟩ := k; exact ⟨p, h _ _ hp, e⟩
theorem enterT_ok : ∀ {l : List SV} {us : List Value} {i N : Nat} {T : TM} {tmps : Array Value}, TRel E ρ T N tmps → DenL E ρ l us → i + l.length ≤ N →
    ∀ tmps' : Array Value, tmps'.size = N → (∀ t, tmps'.getD t undef = if i ≤ t ∧ t < i + l.length then us.getD (t - i) undef else tmps.getD t undef) → TRel E ρ (enterT i l T) N tmps'
  | [], us, i, N, T, tmps, ht, hl, hN, tmps', hs, h => by
    refine ⟨hs, fun t => ?_⟩
    rw [h t, if_neg (by simp)]
    exact ht.get t
  | v :: l, us, i, N, T, tmps, ht, hl, hN, tmps', hs, h => by
    obtain ⟨u, us', hu, hus, rfl⟩ := hl
    simp only [List.length_cons] at hN
    refine enterT_ok (ht.put (d := i) (by omega) hu) hus (by omega) tmps' hs (fun t => ?_)
    rw [h t]
    by_cases e : t = i
    · subst e
      rw [if_pos (by simp), if_neg (by omega), getD_set _ _ _ _ _ (by rw [ht.size]; omega), if_pos rfl]
      simp
    · by_cases e2 : i ≤ t ∧ t < i + (l.length + 1)
      · rw [if_pos (by simpa using e2), if_pos (by omega)]
        rw [show t - i = (t - (i + 1)) + 1 by omega, List.getD_cons_succ]
      · rw [if_neg (by simpa using e2), if_neg (by omega), getD_set _ _ _ _ _ (by rw [ht.size]; omega), if_neg e]
theorem evRes_ok (hA : C.A.Holds E.I) (r : HRel E ρ H w) {T : TM} {N : Nat} {tmps : Array Value} (ht : TRel E ρ T N tmps) : ∀ {rs : List ResultVar} {vs : List SV}, evRes C T H rs = .ok vs →
    ∃ us, (rs.mapM fun | .tmp t => pure (tmps.getD t undef) | .cell a t => do loadVar t (← asAddr (tmps.getD a undef)) : Sem (List Value)).run C.P w = .ok us w ∧ DenL E ρ vs us
  | [], vs, h => by simp only [evRes] at h; cases h; exact ⟨[], by simp, rfl⟩
  | .tmp t :: rs, vs, h => by
    simp only [evRes, R.bind_ok] at h
    obtain ⟨vs', hv, h⟩ := h
    cases h
    obtain ⟨us, k1, k2⟩ := evRes_ok hA r ht hv
    exact ⟨tmps.getD t undef :: us, by simp only [List.mapM_cons, Sem.run_bind, Sem.run_pure, Result.andThen_ok]; rw [k1]; rfl, _, _, ht.get t, k2, rfl⟩
  | .cell a t :: rs, vs, h => by
    simp only [evRes, R.bind_ok] at h
    obtain ⟨v, hv, vs', hvs, h⟩ := h
    cases h
    obtain ⟨us, k1, k2⟩ := evRes_ok hA r ht hvs
    obtain ⟨u, k3, k4⟩ := evLoad_ok hA r (ht.get a) hv
    refine ⟨u :: us, ?_, _, _, k4, k2, rfl⟩
    have k5 : (do loadVar t (← asAddr (tmps.getD a undef)) : Sem Value).run C.P w = .ok u w := by
      generalize tmps.getD a undef = x at k3
      have hp : ∃ q, x = .pointer (some q) := by
        simp only [Instr.loadAt] at k3
        cases x with
        | pointer q =>
          cases q with
          | none => simp [Instr.sureAddr, Sem.run_bind, stuck, Sem.run, Result.andThen] at k3
          | some q => exact ⟨q, rfl⟩
        | _ => simp [Instr.sureAddr, Sem.run_bind, stuck, Sem.run, Result.andThen] at k3
      obtain ⟨q, rfl⟩ := hp
      simpa [Instr.loadAt, Instr.sureAddr, asAddr, Sem.run_bind] using k3
    simp only [List.mapM_cons]
    rw [Sem.run_bind, k5]
    simp only [Result.andThen_ok]
    rw [Sem.run_bind, k1]
    rfl
theorem results_ok (hA : C.A.Holds E.I) (r : HRel E ρ H w) {T : TM} {N : Nat} {tmps : Array Value} (ht : TRel E ρ T N tmps) {fn : Func} {vs : List SV} (h : evRes C T H fn.results.toList = .ok vs) :
    ∃ u, (results fn tmps).run C.P w = .ok u w ∧ Den E ρ (oneOr vs) u := by
  obtain ⟨us, k1, k2⟩ := evRes_ok (C := C) hA r ht h
  have hrun : (results fn tmps).run C.P w = .ok (if h : us.toArray.size = 1 then us.toArray[0] else .tuple us.toArray) w := by
    unfold results
    rw [Array.mapM_eq_mapM_toList, Sem.run_bind, Sem.run_map]
    exact (congrArg (fun q => Result.andThen (Result.andThen q (fun a w' => Result.ok a.toArray w')) (fun a w' => Sem.run C.P (pure (if h : a.size = 1 then a[0] else Value.tuple a)) w')) k1).trans rfl
  refine ⟨_, hrun, ?_⟩
  have hl := k2.length
  match vs, us, hl, k2 with
  | [], [], _, _ => exact ⟨[], rfl, rfl⟩
  | [v], [u], _, k2 => obtain ⟨u', e, hd⟩ := DenL.one k2; cases e; exact hd
  | v :: v2 :: vs, u :: u2 :: us, _, k2 => exact ⟨_, k2, by simp⟩
theorem leave_ok {fn : Func} {c : FuncId} {tmps : Array Value} {R' : Ending → World → Prop} {m : Nat} : ∀ {l : List Nat} {ds : List Deferred} {H H' : SH} {w : World}, StR E ρ H n w → DsR ρ l ds → leaveD l H = .ok H' →
    (∀ w', Stp E ρ H n w ρ H' n w' → LeavesIn Fence.wide m C.P fn tmps R' [] .returning w') → LeavesInM Fence.wide m C.P fn tmps R' ds .returning w
  | [], ds, H, H', w, r, hd, h, hk => by
    cases hd
    simp only [leaveD] at h
    cases h
    exact hk w (.refl r)
  | s :: l, ds, H, H', w, r, hd, h, hk => by
    cases hd with
    | @cons _ _ ds p hp hd =>
      simp only [leaveD, R.bind_ok, ofOpt_ok] at h
      obtain ⟨b, hb, h⟩ := h
      split at h
      · obtain ⟨q, hq, hbr⟩ := r.rel.blk _ _ hb
        rw [hp] at hq; cases hq
        have hobj : w.heap[p.b]? = some (.deferred (some [])) := hbr
        let w1 : World := { w with heap := w.heap.setIfInBounds p.b (.deferred none) }
        have hlt := heap_lt hobj
        have o1 : WOnly p.b w w1 := ⟨rfl, rfl, rfl, by simp [w1], fun k hk => by simp only [w1]; rw [Array.getElem?_setIfInBounds, if_neg (fun e => hk e.symm)]⟩
        have s1 : Stp E ρ H n w ρ (H.set s (.dfr true)) n w1 := Stp.write r hb hp o1 (show w1.heap[p.b]? = some (.deferred none) by simp [w1, hlt])
        refine ⟨by simp, .inl ⟨p.b, w1, rfl, ?_, leave_ok (c := c) s1.to hd h (fun w' k => hk w' (s1.trans k))⟩⟩
        simp [Instr.takeDeferred, Sem.run_bind, getObj, setObj, Sem.run, hobj, w1]
      · cases h
end
end Go.Proofs.YtfiangiajhdhcaaDoor
