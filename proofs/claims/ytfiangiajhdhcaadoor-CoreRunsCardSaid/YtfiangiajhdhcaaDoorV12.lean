/- The reckoner: a symbolic evaluator of a program, proved sound; one of its texts. No condition. -/
import Derived.Test.YtfiangiajhdhcaaDoorVM
namespace Go.Proofs.YtfiangiajhdhcaaDoor
open Go.RowKit
set_option linter.unusedVariables false
set_option maxRecDepth 100000

/-! ### The reckoner -/
inductive SX where
  | normal
  | exit (id : Nat)
  | goto (l : Nat)
  | ret
noncomputable def SX.den : SX → Exit
  | .normal => .normal
  | .exit id => .exit id
  | .goto l => .goto l
  | .ret => .ret
/-- A state of an activation. -/
structure CSt where
  T : TM
  N : Nat
  H : SH
  n : Nat
  ds : List Nat
/-- What is done by a reckoner with less to spend. -/
structure Rk where
  call : FuncId → List SV → SH → Nat → R (SV × SH × Nat)
  code : Option Nat → Code → CSt → R (SX × CSt)
  loop : Option Nat → Code → CSt → R (SX × CSt)
/-- What is known beforehand: of calls, and of pieces of code. -/
structure Base where
  call : FuncId → List SV → SH → Nat → Option (SV × SH × Nat) := fun _ _ _ _ => none
  code : Option Nat → Code → CSt → Option (SX × CSt) := fun _ _ _ => none
noncomputable def evalO (C : Ctx) (T : TM) : Operand → R SV
  | .tmp t => .ok (T.val t)
  | .const v => ofValue v
  | .global g => if g < C.G then .ok (.ptr g 0) else .no "global"
  | .func f => .ok (.func f [] [])
noncomputable def putParams (N : Nat) : List (Tmp × SV) → TM → R TM
  | [], T => .ok T
  | (t, v) :: l, T => if t < N then putParams N l (T.set t v) else .no "round: parameter"
/-- A round of a range over a function. -/
noncomputable def evRound (X : Rk) (s : Nat) (args : List SV) (H : SH) (n : Nat) : R (SV × SH × Nat) :=
  (ofOpt (H.get s) "round: no such loop").bind fun b => match b with
  | .loop _ _ T N params assign body _ => if params.size = args.length then
      (putParams N (params.toList.zip args) T).bind fun T1 => (X.code (some s) assign ⟨T1, N, H, n, []⟩).bind fun (x1, c1) => match x1 with
      | .normal => (ofOpt (c1.H.get s) "round: loop").bind fun b1 => match b1 with
        | .loop .ready p1 T1 N1 params1 assign1 body1 d1 => (X.code (some s) body ⟨c1.T, c1.N, c1.H.set s (.loop .busy p1 T1 N1 params1 assign1 body1 d1), c1.n, c1.ds⟩).bind fun (x2, c2) =>
          (ofOpt (c2.H.get s) "round: loop").bind fun b2 => match b2 with
          | .loop _ _ T2 N2 params2 assign2 body2 d2 =>
            let jump := match x2 with | .normal => none | .ret => some Code.ret | .exit id => some (.exit id) | .goto l => some (.goto l)
            .ok (.bool jump.isNone, c2.H.set s (.loop (if jump.isNone then .ready else .done) jump T2 N2 params2 assign2 body2 d2), c2.n)
          | _ => .no "round: loop"
        | _ => .no "round: loop"
      | _ => .no "round: assign"
    else .no "round: arguments"
  | _ => .no "round: no loop"
noncomputable def Ctx.callee (C : Ctx) (f : FuncId) : R Unit :=
  match C.P.funcs[f]? with
  | some fn => if fn.name == "runtime.NumGoroutine" then .no "callee" else if fn.body.isNone then .no "callee: no body" else .ok ()
  | none => .no "callee: none"
noncomputable def evFn (X : Rk) (C : Ctx) (v : SV) (args : List SV) (H : SH) (n : Nat) : R (SV × SH × Nat) :=
  match v with
  | .func f first cap => (C.callee f).bind fun _ => X.call f (first ++ args ++ cap) H n
  | .yield s => evRound X s args H n
  | _ => .no "call: no function"
/-- Is the value itself the receiver? -/
noncomputable def recvOk (d : TypeDesc) (ptr : Bool) : Bool :=
  match d with
  | .pointer _ => ptr
  | _ => !ptr
/-- A call of a method of an interface's value. -/
noncomputable def evInvoke (X : Rk) (C : Ctx) (rv : SV) (name : String) (l : List SV) (H : SH) (n : Nat) : R (SV × SH × Nat) :=
  match rv with
  | .iface t v => (C.info t).bind fun i => (ofOpt (i.methods.find? (fun m => m.name == name)) "invoke: no method").bind fun m => match m.func with
    | some (f, ptr) => (C.under t).bind fun d => if m.path.isEmpty && recvOk d ptr then (C.callee f).bind fun _ => X.call f (v :: l) H n else .no "invoke: promoted"
    | none => .no "invoke: an interface's"
  | _ => .no "invoke: of what"
noncomputable def evCall (X : Rk) (C : Ctx) (e : Operand → R SV) (c : Call) (H : SH) (n : Nat) : R (SV × SH × Nat) :=
  match c.callee with
  | .builtin .append => (mapR e c.args.toList).bind fun l => match l with
    | [s, x] => evApp C c.argTypes s x H n
    | _ => .no "append: operands"
  | .builtin .clear => (mapR e c.args.toList).bind fun l => match l with
    | [s] => (evClear C c.argTypes s H).bind fun H' => .ok (.tup [], H', n)
    | _ => .no "clear: operands"
  | .builtin .delete => (mapR e c.args.toList).bind fun l => match l with
    | [m, k] => (evDelete C c.argTypes m k H).bind fun H' => .ok (.tup [], H', n)
    | _ => .no "delete: operands"
  | .builtin b => (mapR e c.args.toList).bind fun l => (evB C b c.argTypes l).bind fun v => .ok (v, H, n)
  | .value f => (e f).bind fun fv => (mapR e c.args.toList).bind fun l => evFn X C fv l H n
  | .invoke x name => (e x).bind fun rv => (mapR e c.args.toList).bind fun l => evInvoke X C rv name l H n
noncomputable def evO (X : Rk) (C : Ctx) (e : Operand → R SV) (o : Op) (H : SH) (n : Nat) : R (SV × SH × Nat) :=
  match o with
  | .store t a v => (e a).bind fun x => (e v).bind fun y => (evStore C t x y H).bind fun H' => .ok (.tup [], H', n)
  | .load t a => (e a).bind fun x => (evLoad C t x H).bind fun v => .ok (v, H, n)
  | .alloc _ | .box .. | .buildSlice .. | .makeSlice .. => (evA C e n o).bind fun (v, b) => .ok (v, H.set n b, n + 1)
  | .call c => evCall X C e c H n
  | .makeMap .. | .lookup .. | .mapUpdate .. | .range .. | .next .. => evM C e o H n
  | o => match evQ C e o with
    | .ok v => .ok (v, H, n)
    | .no (.ask op a b) => .no (.ask op a b)
    | .no y => (evSliceH C e o H y).bind fun v => .ok (v, H, n)
noncomputable def Glo (G : Nat) (ρ : Rho) : Prop := ∀ g, g < G → ∃ e, ρ g = some ⟨g, 0, e, undef⟩
theorem Glo.mono {G : Nat} {ρ ρ' : Rho} (h : Glo G ρ) (hr : ρ.le ρ') : Glo G ρ' := fun g hg => let ⟨e, he⟩ := h g hg; ⟨e, hr _ _ he⟩
/-- The fence: none; in a round of a loop or not. -/
noncomputable def Fo (ro : Option Nat) : Fence := { Fence.wide with round := ro }
noncomputable def roD (ρ : Rho) : Option Nat → Option Nat → Prop
  | none, r => r = none
  | some s, r => ∃ p, ρ s = some p ∧ r = some p.b
inductive DsR (ρ : Rho) : List Nat → List Deferred → Prop
  | nil : DsR ρ [] []
  | cons {s : Nat} {l : List Nat} {ds : List Deferred} {p : Place} (hp : ρ s = some p) (h : DsR ρ l ds) : DsR ρ (s :: l) ({ target := .collected p.b, args := #[] } :: ds)
theorem DsR.mono {ρ ρ' : Rho} (hr : ρ.le ρ') {l : List Nat} {ds : List Deferred} (h : DsR ρ l ds) : DsR ρ' l ds := by
  induction h with
  | nil => exact .nil
  | cons hp _ ih => exact .cons (hr _ _ hp) ih
structure CRel (C : Ctx) (E : Val) (ρ : Rho) (st : CSt) (a : Act) (w : World) : Prop where
  sr : StR E ρ st.H st.n w
  glo : Glo C.G ρ
  tm : TRel E ρ st.T st.N a.tmps
  ds : DsR ρ st.ds a.defers
noncomputable def CallOk (C : Ctx) (E : Val) (X : Rk) : Prop :=
  ∀ f args H n v H' n', X.call f args H n = .ok (v, H', n') → ∀ ρ w as, StR E ρ H n w → Glo C.G ρ → DenL E ρ args as →
    Calls C.P f as.toArray w fun e w' => ∃ u ρ', e = .returned u ∧ Stp E ρ H n w ρ' H' n' w' ∧ Den E ρ' v u
noncomputable def CodePost (C : Ctx) (E : Val) (ρ : Rho) (st : CSt) (w : World) (x : SX) (st' : CSt) (e : Exit) (a' : Act) (w' : World) : Prop :=
  ∃ ρ', e = x.den ∧ CRel C E ρ' st' a' w' ∧ Stp E ρ st.H st.n w ρ' st'.H st'.n w' ∧ st'.N = st.N
noncomputable def CodeOk (C : Ctx) (E : Val) (X : Rk) : Prop :=
  ∀ ro c st x st', X.code ro c st = .ok (x, st') → ∀ ρ w a r, CRel C E ρ st a w → roD ρ ro r → ∀ m, c.wpIn (Fo r) m C.P (CodePost C E ρ st w x st') a w
section
variable {C : Ctx} {E : Val} {ρ : Rho} {H : SH} {n : Nat} {w : World}
theorem evalO_ok {T : TM} {N : Nat} {a : Act} (ht : TRel E ρ T N a.tmps) (hg : Glo C.G ρ) (x : Operand) (v : SV) (h : evalO C T x = .ok v) : Den E ρ v (a.eval x) := by
  cases x with
  | tmp t => simp only [evalO] at h; cases h; exact ht.get t
  | const v => exact ofValue_ok h
  | global g =>
    simp only [evalO] at h
    split at h
    · rename_i hlt
      cases h
      obtain ⟨e, he⟩ := hg g hlt
      exact ⟨_, he, rfl⟩
    · cases h
  | func f => simp only [evalO] at h; cases h; exact ⟨[], [], rfl, rfl, rfl⟩
theorem putParams_ok {N : Nat} : ∀ {l : List (Tmp × SV)} {us : List Value} {T T' : TM} {tmps : Array Value} {ts : List Tmp} {vs : List SV}, l = ts.zip vs → TRel E ρ T N tmps → DenL E ρ vs us → putParams N l T = .ok T' →
    TRel E ρ T' N ((ts.zip us).foldl (fun tmps x => tmps.setIfInBounds x.1 x.2) tmps)
  | [], us, T, T', tmps, ts, vs, hl, ht, hv, h => by
    simp [putParams] at h; subst h
    have : ts.zip us = [] := by
      have := hv.length
      cases ts <;> cases vs <;> simp_all
    rw [this]; exact ht
  | (t, v) :: l, us, T, T', tmps, ts, vs, hl, ht, hv, h => by
    cases ts with
    | nil => simp at hl
    | cons t' ts =>
      cases vs with
      | nil => simp at hl
      | cons v' vs =>
        simp only [List.zip_cons_cons, List.cons.injEq, Prod.mk.injEq] at hl
        obtain ⟨⟨rfl, rfl⟩, hl⟩ := hl
        obtain ⟨u, us', hu, hus, rfl⟩ := hv
        simp only [putParams] at h
        split at h
        · rename_i hlt
          exact putParams_ok (us := us') hl (ht.put hlt hu) hus h
        · cases h
/-- A round. -/
theorem evRound_ok {X : Rk} (hX : CodeOk C E X) (r : StR E ρ H n w) (hg : Glo C.G ρ) {s : Nat} {args : List SV} {as : Array Value} {v : SV} {H' : SH} {n' : Nat} (ha : DenL E ρ args as.toList) {p : Place} (hp : ρ s = some p)
    (h : evRound X s args H n = .ok (v, H', n')) (m : Nat) :
    ∃ f tmps assign body, (Instr.yield p.b as).run C.P w = .ok (.round p.b f tmps assign body) w ∧
      RoundIn Fence.wide m C.P p.b f tmps assign body w fun e w' => ∃ u ρ', e = .returned u ∧ Stp E ρ H n w ρ' H' n' w' ∧ Den E ρ' v u := by
  simp only [evRound, R.bind_ok, ofOpt_ok] at h
  obtain ⟨b, hb, h⟩ := h
  split at h
  case h_2 => cases h
  rename_i st pend T N params assign body d
  split at h
  case isFalse => cases h
  rename_i hsize
  simp only [R.bind_ok] at h
  obtain ⟨T1, hT1, ⟨x1, c1⟩, hc1, h⟩ := h
  dsimp only at h
  split at h
  case h_2 => cases h
  simp only [R.bind_ok, ofOpt_ok] at h
  obtain ⟨b1, hb1, h⟩ := h
  split at h
  case h_2 => cases h
  rename_i p1 T1' N1 params1 assign1 body1 d1
  simp only [R.bind_ok, ofOpt_ok] at h
  obtain ⟨⟨x2, c2⟩, hc2, b2, hb2, h⟩ := h
  dsimp only at h hb2
  split at h
  case h_2 => cases h
  rename_i st2 p2 T2 N2 params2 assign2 body2 d2
  obtain ⟨q, hq, lp, g1, g2, g3, g4, g5, g6, g7, g8⟩ := r.rel.blk _ _ hb
  rw [hp] at hq; cases hq
  have hal : as.size = args.length := by have := ha.length; simpa using this
  refine ⟨lp.fn, (params.zip as).foldl (fun tmps x => tmps.setIfInBounds x.1 x.2) lp.tmps, assign, body, ?_, ?_⟩
  · have hgl : (Instr.getLoop p.b).run C.P w = .ok lp w := by simp [Instr.getLoop, Sem.run_bind, getObj, Sem.run, g1]
    simp [Instr.yield, Sem.run_bind, hgl, g5, g6, g7, hsize, hal]
  · refine roundIn_of_wpIn trivial ?_
    have hT : TRel E ρ T1 N ((params.zip as).foldl (fun tmps x => tmps.setIfInBounds x.1 x.2) lp.tmps) := by
      have := putParams_ok (ts := params.toList) (vs := args) rfl g4 ha hT1
      rw [← Array.foldl_toList, Array.toList_zip]
      exact this
    refine wpIn_mono (hX _ _ _ _ _ hc1 ρ w { tmps := (params.zip as).foldl (fun tmps x => tmps.setIfInBounds x.1 x.2) lp.tmps, defers := [] } (some p.b) ⟨r, hg, hT, .nil⟩ ⟨p, hp, rfl⟩ m) ?_
    rintro e a1 w1 ⟨ρ1, rfl, k1, s1, _⟩
    show _
    have hp1 : ρ1 s = some p := (s1.mono r) _ _ hp
    obtain ⟨q, hq, lp1, l1, l2, l3, l4, l5, l6, l7, l8, l9, l10⟩ := k1.sr.rel.blk _ _ hb1
    rw [hp1] at hq; cases hq
    have hgl1 : (Instr.getLoop p.b).run C.P w1 = .ok lp1 w1 := by simp [Instr.getLoop, Sem.run_bind, getObj, Sem.run, l1]
    let w2 : World := { w1 with heap := w1.heap.setIfInBounds p.b (.loop { lp1 with state := .busy }) }
    have hbr : (Instr.beginRound p.b).run C.P w1 = .ok () w2 := by
      simp [Instr.beginRound, Sem.run_bind, hgl1, setObj, Sem.run, l1, l2, w2]
    have hlt1 : p.b < w1.heap.size := heap_lt l1
    have o2 : WOnly p.b w1 w2 := ⟨rfl, rfl, rfl, by simp [w2], fun k hk => by simp only [w2]; rw [Array.getElem?_setIfInBounds, if_neg (fun e => hk e.symm)]⟩
    have e2 : w2.heap[p.b]? = some (.loop { lp1 with state := .busy }) := by simp [w2, hlt1]
    have s2 : Stp E ρ1 c1.H c1.n w1 ρ1 (c1.H.set s (.loop .busy p1 T1' N1 params1 assign1 body1 d1)) c1.n w2 :=
      Stp.write k1.sr hb1 hp1 o2 ⟨_, e2, rfl, l3, l4, l5, l6, l7, l8, l9, l10⟩
    refine ⟨w2, hbr, ?_⟩
    refine wpIn_mono (hX _ _ _ _ _ hc2 ρ1 w2 a1 (some p.b) ⟨s2.to, k1.glo, k1.tm, k1.ds⟩ ⟨p, hp1, rfl⟩ m) ?_
    · rintro e a3 w3 ⟨ρ3, rfl, k3, s3, _⟩
      have hp3 : ρ3 s = some p := (s3.mono s2.to) _ _ hp1
      obtain ⟨q, hq, lp3, t1, t2, t3, t4, t5, t6, t7, t8, t9, t10⟩ := k3.sr.rel.blk _ _ hb2
      rw [hp3] at hq; cases hq
      have hgl3 : (Instr.getLoop p.b).run C.P w3 = .ok lp3 w3 := by simp [Instr.getLoop, Sem.run_bind, getObj, Sem.run, t1]
      have fin : ∀ jump : Option Code, ∃ w4, (Instr.endRound p.b jump).run C.P w3 = .ok (.bool jump.isNone) w4 ∧
          Stp E ρ H n w ρ3 (c2.H.set s (.loop (if jump.isNone then .ready else .done) jump T2 N2 params2 assign2 body2 d2)) c2.n w4 := by
        intro jump
        let w4 : World := { w3 with heap := w3.heap.setIfInBounds p.b (.loop { lp3 with state := if jump.isNone then .ready else .done, pending := jump }) }
        refine ⟨w4, by simp [Instr.endRound, Sem.run_bind, hgl3, setObj, Sem.run, t1, w4], ?_⟩
        have hlt3 : p.b < w3.heap.size := heap_lt t1
        have o4 : WOnly p.b w3 w4 := ⟨rfl, rfl, rfl, by simp [w4], fun k hk => by simp only [w4]; rw [Array.getElem?_setIfInBounds, if_neg (fun e => hk e.symm)]⟩
        have e4 : w4.heap[p.b]? = some (.loop { lp3 with state := if jump.isNone then .ready else .done, pending := jump }) := by simp [w4, hlt3]
        exact (s1.trans (s2.trans s3)).trans (Stp.write k3.sr hb2 hp3 o4 ⟨_, e4, rfl, rfl, t4, t5, t6, t7, t8, t9, t10⟩)
      cases x2 with
      | normal => cases h; obtain ⟨w4, f1, f2⟩ := fin none; exact ⟨_, w4, f1, _, ρ3, rfl, f2, rfl⟩
      | ret => cases h; obtain ⟨w4, f1, f2⟩ := fin (some .ret); exact ⟨_, w4, f1, _, ρ3, rfl, f2, rfl⟩
      | exit id => cases h; obtain ⟨w4, f1, f2⟩ := fin (some (.exit id)); exact ⟨_, w4, f1, _, ρ3, rfl, f2, rfl⟩
      | goto l => cases h; obtain ⟨w4, f1, f2⟩ := fin (some (.goto l)); exact ⟨_, w4, f1, _, ρ3, rfl, f2, rfl⟩
end
end Go.Proofs.YtfiangiajhdhcaaDoor
