/- The reckoner: a symbolic evaluator of a program, proved sound; one of its texts. No condition. -/
import Derived.Test.YtfiangiajhdhcaaDoorV16
namespace Go.Proofs.YtfiangiajhdhcaaDoor
open Go.RowKit
set_option linter.unusedVariables false
set_option maxRecDepth 100000

/-! ### What a drawn region's reckoning has found, operation by operation -/
structure AccOk (as : List Nat) (T0 : TM) (i : Nat) (A : Acc) : Prop where
  len : A.ws.length = i
  tv : ∀ t, A.T.val t = (lastW (fun _ => true) 0 A.ws t).getD (T0.val t)
  cur : A.cur ∈ A.hist
  bits : ∀ h ∈ A.hist, ∀ k, h.mn.testBit k = true → k < i
  alb : ∀ k b, (k, b) ∈ A.al → k < i
  fn : ∀ k b b', (k, b) ∈ A.al → (k, b') ∈ A.al → b = b'
  sub : ∀ h ∈ A.hist, ∀ k, h.mn.testBit k = true → A.cur.mn.testBit k = true
  ab : ∀ h ∈ A.hist, ∀ k, h.ab.testBit k = true → ∃ e, h.mn.testBit e = true ∧ (ancAt as e).testBit k = true
  chain : ∀ e e', A.cur.mn.testBit e = true → A.cur.mn.testBit e' = true → e < e' → (ancAt as e').testBit e = true
  uniq : ∀ h h', h ∈ A.hist → h' ∈ A.hist → h.mn = h'.mn → h = h'
structure Mono (i : Nat) (A A' : Acc) : Prop where
  ws : ∃ r, A'.ws = A.ws ++ r
  hist : ∀ h ∈ A.hist, h ∈ A'.hist
  histn : ∀ h ∈ A'.hist, h ∈ A.hist ∨ ∀ k, k < i → h.mn.testBit k = A.cur.mn.testBit k
  al : ∃ new, A'.al = new ++ A.al ∧ ∀ k b, (k, b) ∈ new → i ≤ k
  ls : ∀ x ∈ A.ls, x ∈ A'.ls
  cm : ∀ k, k < i → A'.cur.mn.testBit k = A.cur.mn.testBit k
theorem Mono.refl (i : Nat) (A : Acc) : Mono i A A := ⟨⟨[], by simp⟩, fun _ h => h, fun _ h => .inl h, ⟨[], by simp, by simp⟩, fun _ h => h, fun _ _ => rfl⟩
theorem Mono.trans {i j : Nat} {A B D : Acc} (h : Mono i A B) (k : Mono j B D) (hij : i ≤ j) : Mono i A D := by
  obtain ⟨r1, e1⟩ := h.ws
  obtain ⟨r2, e2⟩ := k.ws
  obtain ⟨n1, f1, g1⟩ := h.al
  obtain ⟨n2, f2, g2⟩ := k.al
  refine ⟨⟨r1 ++ r2, by rw [e2, e1, List.append_assoc]⟩, fun x hx => k.hist x (h.hist x hx), fun x hx => ?_, ⟨n2 ++ n1, by rw [f2, f1, List.append_assoc], fun q b hq => ?_⟩, fun x hx => k.ls x (h.ls x hx), fun q hq => (k.cm q (by omega)).trans (h.cm q hq)⟩
  · rcases k.histn x hx with e | e
    · exact h.histn x e
    · exact .inr (fun q hq => (e q (by omega)).trans (h.cm q hq))
  · rcases List.mem_append.1 hq with e | e
    · exact Nat.le_trans hij (g2 q b e)
    · exact g1 q b e
noncomputable def NoM (A : Acc) (i : Nat) : Prop := ∀ h ∈ A.hist, h.mn.testBit i = false
noncomputable def NoA (A : Acc) (i : Nat) : Prop := ∀ b, (i, b) ∉ A.al
/-- What is known of one operation. -/
inductive Fact (X : Rk) (C : Ctx) (n0 : Nat) (A : Acc) (i : Nat) (o : Oper) (anc : Nat) (f : Nat → SV) : SV → Bool → Prop
  | un (hm : NoM A i) (ha : NoA A i) : Fact X C n0 A i o anc f (.tup []) false
  | quiet {v : SV} (h : evQ C (evalV C f) o.op = .ok v) (hm : NoM A i) (ha : NoA A i) : Fact X C n0 A i o anc f v true
  | load {v x : SV} {t : TypeId} {a : Operand} (ho : o.op = .load t a) (hx : evalV C f a = .ok x) (hl : (i, t, x, v, anc) ∈ A.ls) (hm : NoM A i) (ha : NoA A i) : Fact X C n0 A i o anc f v true
  | alloc {v : SV} {b : SBlk} (h : evA C (evalV C f) (n0 + i) o.op = .ok (v, b)) (hb : (i, b) ∈ A.al) (hm : NoM A i) : Fact X C n0 A i o anc f v true
  | main {v : SV} {h h' : Hs} (hh : h ∈ A.hist) (hh' : h' ∈ A.hist) (h1 : ∀ k, k < i → h.mn.testBit k = A.cur.mn.testBit k) (h2 : ∀ k, h.mn.testBit k = true → k < i) (h3 : ∀ k, h.mn.testBit k = true → anc.testBit k = true)
      (h4 : h'.mn = h.mn ||| 2 ^ i) (h5 : h'.ab = h.ab ||| anc) (h6 : evO X C (evalV C f) o.op (addA n0 anc.testBit h.ab.testBit h.S A.al) h.n = .ok (v, h'.S, h'.n)) (h7 : A.cur.mn.testBit i = true) (ha : NoA A i) : Fact X C n0 A i o anc f v true
theorem NoM.mono {A A' : Acc} {i : Nat} (h : NoM A i) (hc : A.cur ∈ A.hist) (m : Mono (i + 1) A A') : NoM A' i := by
  intro x hx
  rcases m.histn x hx with e | e
  · exact h x e
  · rw [e i (by omega)]; exact h _ hc
theorem NoA.mono {A A' : Acc} {i : Nat} (h : NoA A i) (m : Mono (i + 1) A A') : NoA A' i := by
  intro b hb
  obtain ⟨new, e, g⟩ := m.al
  rw [e] at hb
  rcases List.mem_append.1 hb with k | k
  · have := g i b k; omega
  · exact h b k
theorem Fact.mono {X : Rk} {C : Ctx} {n0 : Nat} {A A' : Acc} {i : Nat} {o : Oper} {anc : Nat} {f : Nat → SV} {v : SV} {b : Bool} (h : Fact X C n0 A i o anc f v b) (hc : A.cur ∈ A.hist) (m : Mono (i + 1) A A') (hanc : anc < 2 ^ i) : Fact X C n0 A' i o anc f v b := by
  cases h with
  | un hm ha => exact .un (hm.mono hc m) (ha.mono m)
  | quiet h hm ha => exact .quiet h (hm.mono hc m) (ha.mono m)
  | load ho hx hl hm ha => exact .load ho hx (m.ls _ hl) (hm.mono hc m) (ha.mono m)
  | alloc h hb hm =>
    obtain ⟨new, e, g⟩ := m.al
    exact .alloc h (by rw [e]; exact List.mem_append_right _ hb) (hm.mono hc m)
  | main hh hh' h1 h2 h3 h4 h5 h6 h7 ha =>
    obtain ⟨new, e, g⟩ := m.al
    refine .main (m.hist _ hh) (m.hist _ hh') (fun k hk => (h1 k hk).trans (m.cm k (by omega)).symm) h2 h3 h4 h5 ?_ (by rw [m.cm i (by omega)]; exact h7) (ha.mono m)
    rw [e, addA_new (fun k b hk => ?_)]
    · exact h6
    · have h8 := g k b hk
      exact Nat.testBit_lt_two_pow (Nat.lt_of_lt_of_le hanc (Nat.pow_le_pow_right (by omega) (by omega)))
theorem sPut_val {o : Oper} {v : SV} {T T' : TM} {N : Nat} (h : sPut o v T N = .ok T') : (∀ d, o.dst = some d → d < N) ∧ ∀ t, T'.val t = if o.dst = some t then v else T.val t := by
  unfold sPut at h
  split at h
  · rename_i hd
    cases h
    exact ⟨fun d e => (by rw [hd] at e; cases e), fun t => by simp [hd]⟩
  · rename_i d hd
    split at h
    · rename_i hlt
      cases h
      refine ⟨fun d' e => (by rw [hd] at e; cases e; exact hlt), fun t => ?_⟩
      rw [TM.val_set, hd]
      by_cases e : t = d
      · subst e; simp
      · have : ¬ some d = some t := fun k => e (Option.some.inj k).symm
        simp [e, this]
    · cases h
/-- The temporary's value, as it was ahead of operation i. -/
noncomputable def before (T0 : TM) (ws : List (Option Tmp × SV)) (i : Nat) (t : Nat) : SV := (lastW (fun k => decide (k < i)) 0 ws t).getD (T0.val t)
theorem push_ok {as : List Nat} {T0 : TM} {i : Nat} {A A' : Acc} {o : Oper} {v : SV} {N : Nat} (hA : AccOk as T0 i A) (h : A.push o v N = .ok A') :
    AccOk as T0 (i + 1) A' ∧ Mono i A A' ∧ A'.ws = A.ws ++ [(o.dst, v)] ∧ (∀ d, o.dst = some d → d < N) ∧ A'.cur = A.cur ∧ A'.hist = A.hist ∧ A'.al = A.al ∧ A'.ls = A.ls := by
  simp only [Acc.push, R.bind_ok] at h
  obtain ⟨T, hT, h⟩ := h
  cases h
  obtain ⟨g1, g2⟩ := sPut_val hT
  refine ⟨⟨by simp [hA.len], fun t => ?_, hA.cur, fun h hh k hk => by have := hA.bits h hh k hk; omega, fun k b hk => by have := hA.alb k b hk; omega, hA.fn, hA.sub, hA.ab, hA.chain, hA.uniq⟩,
    ⟨⟨_, rfl⟩, fun _ h => h, fun _ h => .inl h, ⟨[], by simp, by simp⟩, fun _ h => h, fun _ _ => rfl⟩, rfl, g1, rfl, rfl, rfl, rfl⟩
  dsimp only
  rw [g2 t, lastW_append, hA.tv t]
  by_cases e : o.dst = some t <;> simp [e]
theorem before_eq {as : List Nat} {T0 : TM} {i : Nat} {A A' : Acc} (hA : AccOk as T0 i A) (m : Mono i A A') (t : Nat) : before T0 A'.ws i t = A.T.val t := by
  obtain ⟨r, e⟩ := m.ws
  unfold before
  rw [hA.tv t, e, lastW_pre (fun k hk => by simp [hA.len] at hk ⊢; omega)]
  congr 1
  refine lastW_congr (fun k v hk => ?_)
  have := (List.getElem?_eq_some_iff.1 hk).1
  rw [hA.len] at this
  simp; omega
theorem NoM.of {as : List Nat} {T0 : TM} {i : Nat} {A : Acc} (hA : AccOk as T0 i A) : NoM A i := by
  intro h hh
  cases e : h.mn.testBit i
  · rfl
  · have := hA.bits h hh i e; omega
theorem NoA.of {as : List Nat} {T0 : TM} {i : Nat} {A : Acc} (hA : AccOk as T0 i A) : NoA A i := by
  intro b hb
  have := hA.alb i b hb; omega
theorem drawOp_ok {X : Rk} {C : Ctx} {ops : Array Oper} {N n0 i : Nat} {o : Oper} {anc : Nat} {A A' : Acc} {as : List Nat} {T0 : TM} (hA : AccOk as T0 i A) (has : as[i]? = some anc) (hanc : anc < 2 ^ i) (h : drawOp X C ops N n0 i o anc A = .ok A') :
    AccOk as T0 (i + 1) A' ∧ Mono i A A' ∧ ∃ v b, A'.ws = A.ws ++ [(o.dst, v)] ∧ (∀ d, o.dst = some d → d < N) ∧ swantedV ops (before T0 A'.ws i) o = .ok b ∧ Fact X C n0 A' i o anc (before T0 A'.ws i) v b := by
  simp only [drawOp, R.bind_ok] at h
  obtain ⟨b, hb, h⟩ := h
  rw [swanted_eq] at hb
  have hM := NoM.of hA
  have hNA := NoA.of hA
  split at h
  · rename_i hbf
    subst hbf
    obtain ⟨k1, k2, k3, k4, k5, k6, k7, k8⟩ := push_ok hA h
    have hv : before T0 A'.ws i = A.T.val := funext fun t => before_eq hA k2 t
    refine ⟨k1, k2, _, false, k3, k4, by rw [hv]; exact hb, ?_⟩
    exact .un (by unfold NoM; rw [k6]; exact hM) (by unfold NoA; rw [k7]; exact hNA)
  · rename_i hbt
    have hbt : b = true := by cases b <;> simp_all
    subst hbt
    split at h
    · rename_i t a hl
      simp only [R.bind_ok] at h
      obtain ⟨x, hx, v, hv, A1, hA1, h⟩ := h
      cases h
      obtain ⟨k1, k2, k3, k4, k5, k6, k7, k8⟩ := push_ok hA hA1
      have hbv : before T0 A1.ws i = A.T.val := funext fun t => before_eq hA k2 t
      refine ⟨⟨k1.len, k1.tv, k1.cur, k1.bits, k1.alb, k1.fn, k1.sub, k1.ab, k1.chain, k1.uniq⟩, ⟨k2.ws, k2.hist, k2.histn, k2.al, fun x hx => by simp [k2.ls x hx], k2.cm⟩, v, true, k3, k4, by show swantedV ops (before T0 A1.ws i) o = _; rw [hbv]; exact hb, ?_⟩
      have ho : o.op = .load t a := by
        cases ho : o.op <;> rw [ho] at hl <;> simp [loadOf] at hl
        rw [hl.1, hl.2]
      refine .load (x := x) (t := t) (a := a) ho ?_ (by simp) (by unfold NoM; rw [k6]; exact hM) (by unfold NoA; rw [k7]; exact hNA)
      show evalV C (before T0 A1.ws i) a = _
      rw [hbv, ← evalO_eq]; exact hx
    · split at h
      · simp only [R.bind_ok] at h
        obtain ⟨⟨v, bk⟩, hv, A1, hA1, h⟩ := h
        cases h
        obtain ⟨k1, k2, k3, k4, k5, k6, k7, k8⟩ := push_ok hA hA1
        have hbv : before T0 A1.ws i = A.T.val := funext fun t => before_eq hA k2 t
        refine ⟨⟨k1.len, k1.tv, k1.cur, k1.bits, ?_, ?_, k1.sub, k1.ab, k1.chain, k1.uniq⟩, ⟨k2.ws, k2.hist, k2.histn, ?_, k2.ls, k2.cm⟩, v, true, k3, k4, by show swantedV ops (before T0 A1.ws i) o = _; rw [hbv]; exact hb, ?_⟩
        · intro k b hk
          rcases List.mem_cons.1 hk with e | e
          · cases e; omega
          · exact k1.alb k b e
        · intro k b b' h1 h2
          rw [k7] at h1 h2
          rcases List.mem_cons.1 h1 with e1 | e1 <;> rcases List.mem_cons.1 h2 with e2 | e2
          · cases e1; cases e2; rfl
          · cases e1; exact absurd e2 (hNA _)
          · cases e2; exact absurd e1 (hNA _)
          · exact hA.fn k b b' e1 e2
        · exact ⟨[(i, bk)], by rw [k7]; rfl, fun k b hk => by simp at hk; omega⟩
        · refine .alloc (b := bk) ?_ (by simp) (by unfold NoM; rw [k6]; exact hM)
          show evA C (evalV C (before T0 A1.ws i)) _ _ = _
          rw [hbv, ← evalO_eq]; exact hv
      · split at h
        · split at h
          · rename_i hch
            simp only [R.bind_ok] at h
            obtain ⟨⟨v, H, n⟩, hv, A1, hA1, h⟩ := h
            cases h
            obtain ⟨k1, k2, k3, k4, k5, k6, k7, k8⟩ := push_ok hA hA1
            have hbv : before T0 A1.ws i = A.T.val := funext fun t => before_eq hA k2 t
            have hsubanc : ∀ k, A.cur.mn.testBit k = true → anc.testBit k = true := by
              intro k hk
              rw [← hch, Nat.testBit_and] at hk
              simp at hk; exact hk.2
            have hbit : ∀ k, (A.cur.mn ||| 2 ^ i).testBit k = true → A.cur.mn.testBit k = true ∨ k = i := by
              intro k hk
              simp only [Nat.testBit_or, Bool.or_eq_true] at hk
              rcases hk with hk | hk
              · exact .inl hk
              · rw [Nat.testBit_two_pow] at hk; exact .inr (of_decide_eq_true hk).symm
            have hi : (A.cur.mn ||| 2 ^ i).testBit i = true := by simp [Nat.testBit_or, Nat.testBit_two_pow_self]
            have hanci : ancAt as i = anc := by simp [ancAt, has]
            refine ⟨⟨k1.len, k1.tv, by simp, ?_, k1.alb, k1.fn, ?_, ?_, ?_, ?_⟩, ⟨k2.ws, fun x hx => List.mem_cons_of_mem _ (k2.hist x hx), ?_, k2.al, k2.ls, ?_⟩, v, true, k3, k4, by show swantedV ops (before T0 A1.ws i) o = _; rw [hbv]; exact hb, ?_⟩
            · intro x hx k hk
              rcases List.mem_cons.1 hx with rfl | hx
              · rw [k5] at hk
                rcases hbit k hk with e | e
                · have := hA.bits _ hA.cur k e; omega
                · omega
              · exact k1.bits x hx k hk
            · intro x hx k hk
              rcases List.mem_cons.1 hx with rfl | hx
              · exact hk
              · have := k1.sub x hx k hk
                simp [Nat.testBit_or, this]
            · intro x hx k hk
              rcases List.mem_cons.1 hx with rfl | hx
              · simp only [Nat.testBit_or, Bool.or_eq_true] at hk
                rcases hk with hk | hk
                · rw [k5] at hk
                  obtain ⟨e, e1, e2⟩ := hA.ab _ hA.cur k hk
                  exact ⟨e, by rw [k5]; simp [Nat.testBit_or, e1], e2⟩
                · exact ⟨i, by rw [k5]; exact hi, by rw [hanci]; exact hk⟩
              · exact k1.ab x hx k hk
            · intro e e' h1 h2 hlt
              rw [k5] at h1 h2
              rcases hbit e h1 with g1 | g1 <;> rcases hbit e' h2 with g2 | g2
              · exact hA.chain e e' g1 g2 hlt
              · subst g2; rw [hanci]; exact hsubanc e g1
              · have := hA.bits _ hA.cur e' g2; omega
              · omega
            · intro x y hx hy hxy
              have old : ∀ z ∈ A1.hist, z.mn ≠ A1.cur.mn ||| 2 ^ i := by
                intro z hz e
                rw [k6] at hz
                have := hM z hz
                rw [e, k5, hi] at this; cases this
              rcases List.mem_cons.1 hx with rfl | hx <;> rcases List.mem_cons.1 hy with rfl | hy
              · rfl
              · exact absurd hxy.symm (old y hy)
              · exact absurd hxy (old x hx)
              · exact k1.uniq x y hx hy hxy
            · intro x hx
              rcases List.mem_cons.1 hx with rfl | hx
              · refine .inr (fun k hk => ?_)
                rw [k5]
                have : i ≠ k := by omega
                simp [Nat.testBit_or, this]
              · exact .inl (by rw [← k6]; exact hx)
            · intro k hk
              dsimp only
              rw [k5]
              have : i ≠ k := by omega
              simp [Nat.testBit_or, this]
            · refine .main (h := A.cur) (h' := { S := H, n := n, ab := A1.cur.ab ||| anc, mn := A1.cur.mn ||| 2 ^ i }) (List.mem_cons_of_mem _ (by rw [k6]; exact hA.cur)) (by simp) ?_ (fun k hk => hA.bits _ hA.cur k hk) hsubanc (by rw [k5]) (by rw [k5]) ?_ ?_ (by unfold NoA; rw [k7]; exact hNA)
              · intro k hk
                dsimp only
                rw [k5]
                have : i ≠ k := by omega
                simp [Nat.testBit_or, this]
              · show evO X C (evalV C (before T0 A1.ws i)) _ _ _ = _
                rw [hbv, ← evalO_eq]
                show evO X C _ _ (addA n0 anc.testBit A.cur.ab.testBit A.cur.S A1.al) _ = _
                rw [k7]; exact hv
              · dsimp only
                rw [k5]; exact hi
          · cases h
        · simp only [R.bind_ok] at h
          obtain ⟨v, hv, h⟩ := h
          obtain ⟨k1, k2, k3, k4, k5, k6, k7, k8⟩ := push_ok hA h
          have hbv : before T0 A'.ws i = A.T.val := funext fun t => before_eq hA k2 t
          refine ⟨k1, k2, v, true, k3, k4, by rw [hbv]; exact hb, ?_⟩
          refine .quiet ?_ (by unfold NoM; rw [k6]; exact hM) (by unfold NoA; rw [k7]; exact hNA)
          rw [hbv, ← evalO_eq]; exact hv
theorem drawOps_ok {X : Rk} {C : Ctx} {ops : Array Oper} {N n0 : Nat} {as : List Nat} {T0 : TM} : ∀ {os : List Oper} {an : List Nat} {i : Nat} {A A' : Acc}, AccOk as T0 i A → (∀ k, as[i + k]? = an[k]?) → (∀ k a, as[k]? = some a → a < 2 ^ k) →
    drawOps X C ops N n0 i os an A = .ok A' → AccOk as T0 (i + os.length) A' ∧ Mono i A A' ∧
      ∀ k o, os[k]? = some o → ∃ v b, A'.ws[i + k]? = some (o.dst, v) ∧ (∀ d, o.dst = some d → d < N) ∧ swantedV ops (before T0 A'.ws (i + k)) o = .ok b ∧ Fact X C n0 A' (i + k) o (ancAt as (i + k)) (before T0 A'.ws (i + k)) v b
  | [], an, i, A, A', hA, has, hlt, h => by
    simp only [drawOps] at h
    cases h
    exact ⟨hA, .refl _ _, fun k o hk => by simp at hk⟩
  | o :: os, [], i, A, A', hA, has, hlt, h => by simp [drawOps] at h
  | o :: os, anc :: an, i, A, A', hA, has, hlt, h => by
    simp only [drawOps, R.bind_ok] at h
    obtain ⟨A1, h1, h2⟩ := h
    have has0 : as[i]? = some anc := by simpa using has 0
    have hanc := hlt i anc has0
    obtain ⟨g1, g2, v, b, g3, g4, g5, g6⟩ := drawOp_ok hA has0 hanc h1
    obtain ⟨f1, f2, f3⟩ := drawOps_ok g1 (fun k => by have := has (k + 1); simpa [Nat.add_assoc, Nat.add_comm 1 k] using this) hlt h2
    refine ⟨by simpa [Nat.add_assoc, Nat.add_comm 1 os.length] using f1, g2.trans f2 (by omega), fun k o' hk => ?_⟩
    cases k with
    | zero =>
      simp at hk
      subst hk
      obtain ⟨r, e⟩ := f2.ws
      have hbe : before T0 A'.ws i = before T0 A1.ws i := by
        funext t
        rw [before_eq hA (g2.trans f2 (by omega)) t, before_eq hA g2 t]
      refine ⟨v, b, ?_, g4, by rw [Nat.add_zero, hbe]; exact g5, ?_⟩
      · rw [e, g3]
        simp [hA.len]
      · rw [Nat.add_zero, hbe, show ancAt as i = anc by simp [ancAt, has0]]
        exact g6.mono g1.cur f2 hanc
    | succ k =>
      obtain ⟨v', b', q⟩ := f3 k o' (by simpa using hk)
      rw [show i + (k + 1) = i + 1 + k by omega]
      exact ⟨v', b', q⟩
end Go.Proofs.YtfiangiajhdhcaaDoor
