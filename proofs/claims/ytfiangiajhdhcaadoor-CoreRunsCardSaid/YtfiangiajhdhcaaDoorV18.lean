/- The reckoner: a symbolic evaluator of a program, proved sound; one of its texts. No condition. -/
import Derived.Test.YtfiangiajhdhcaaDoorV17
namespace Go.Proofs.YtfiangiajhdhcaaDoor
open Go.RowKit
set_option linter.unusedVariables false
set_option maxRecDepth 100000

/-! ### Regions whose order is drawn: every order comes to the same -/
theorem addA_congr {n0 : Nat} {inc inc' exc : Nat → Bool} {S : SH} : ∀ {al : List (Nat × SBlk)}, (∀ i b, (i, b) ∈ al → inc i = inc' i) → addA n0 inc exc S al = addA n0 inc' exc S al
  | [], _ => rfl
  | (i, b) :: l, h => by
    simp only [addA]
    rw [h i b (by simp), addA_congr (fun i b hm => h i b (by simp [hm]))]
theorem lastW_last {D : Nat → Bool} {t : Nat} {v : SV} : ∀ {l : List (Option Tmp × SV)} {s j : Nat}, l[j]? = some (some t, v) → D (s + j) = true → (∀ k u, j < k → l[k]? = some (some t, u) → D (s + k) = false) → lastW D s l t = some v
  | (d, u) :: l, s, 0, h, h1, h2 => by
    simp at h
    obtain ⟨rfl, rfl⟩ := h
    simp only [lastW]
    have : lastW D (s + 1) l t = none := by
      have e : lastW D (s + 1) l t = lastW (fun _ => false) (s + 1) l t := lastW_congr (fun k u hk => by
        have := h2 (k + 1) u (by omega) (by simpa using hk)
        rw [← this]; congr 1; omega)
      rw [e]
      have : ∀ (l : List (Option Tmp × SV)) (i : Nat), lastW (fun _ => false) i l t = none := by
        intro l
        induction l with
        | nil => intro i; rfl
        | cons x l ih => intro i; obtain ⟨d, v⟩ := x; simp [lastW, ih]
      exact this l _
    rw [this]
    simp at h1
    simp [h1]
  | (d, u) :: l, s, j + 1, h, h1, h2 => by
    simp only [lastW]
    rw [lastW_last (s := s + 1) (j := j) (by simpa using h) (by rw [← h1]; congr 1; omega) (fun k w hk hl => by
      have := h2 (k + 1) w (by omega) (by simpa using hl)
      rw [← this]; congr 1; omega)]
noncomputable def updL (L : Nat → Bool) (i : Nat) (k : Nat) : Bool := L k || decide (k = i)
theorem updL_other {L : Nat → Bool} {i k : Nat} (h : k ≠ i) : updL L i k = L k := by simp [updL, h]
theorem updL_same {L : Nat → Bool} {i : Nat} : updL L i i = true := by simp [updL]
theorem HRel.sub {E : Val} {ρ : Rho} {H H' : SH} {w : World} (h : HRel E ρ H w) (hs : ∀ t c, H'.get t = some c → H.get t = some c) : HRel E ρ H' w :=
  ⟨fun t c ht => h.blk t c (hs t c ht), fun t1 t2 b1 b2 p1 p2 k h1 h2 => h.inj t1 t2 b1 b2 p1 p2 k (hs _ _ h1) (hs _ _ h2), h.kept, fun k hk ⟨t, c, p, ht, hw, hp, e⟩ => h.free k hk ⟨t, c, p, hs _ _ ht, hw, hp, e⟩⟩
theorem fpw_fp {E : Val} {ρ : Rho} {H : SH} {k : Nat} (h : fpw E ρ H k) : fp E ρ H k := by
  obtain ⟨s, b, p, h1, _, h2⟩ := h
  exact ⟨s, b, p, h1, h2⟩
theorem fpw_sub {E : Val} {ρ : Rho} {H H' : SH} {k : Nat} (hs : ∀ t c, H'.get t = some c → H.get t = some c) (h : fpw E ρ H' k) : fpw E ρ H k := by
  obtain ⟨s, b, p, h1, h2⟩ := h
  exact ⟨s, b, p, hs _ _ h1, h2⟩
theorem fp_sub {E : Val} {ρ : Rho} {H H' : SH} {k : Nat} (hs : ∀ t c, H'.get t = some c → H.get t = some c) (h : fp E ρ H' k) : fp E ρ H k := by
  obtain ⟨s, b, p, h1, h2⟩ := h
  exact ⟨s, b, p, hs _ _ h1, h2⟩
section
variable {C : Ctx} {E : Val}
theorem evalV_ok {f : Nat → SV} {ρ : Rho} {a : Act} (ht : ∀ t, Den E ρ (f t) (a.tmps.getD t undef)) (hg : Glo C.G ρ) (x : Operand) (v : SV) (h : evalV C f x = .ok v) : Den E ρ v (a.eval x) := by
  cases x with
  | tmp t => simp only [evalV] at h; cases h; exact ht t
  | const v => exact ofValue_ok h
  | global g =>
    simp only [evalV] at h
    split at h
    · rename_i hlt
      cases h
      obtain ⟨e, he⟩ := hg g hlt
      exact ⟨_, he, rfl⟩
    · cases h
  | func f => simp only [evalV] at h; cases h; exact ⟨[], [], rfl, rfl, rfl⟩
theorem swantedV_ok {ops : Array Oper} {f : Nat → SV} {ρ : Rho} {tmps : Array Value} {o : Oper} {b : Bool} (ht : ∀ t, Den E ρ (f t) (tmps.getD t undef)) (h : swantedV ops f o = .ok b) : Region.wanted o (yielded ops tmps) = b := by
  unfold swantedV at h
  unfold Region.wanted
  split at h
  · rename_i hg
    cases h
    rw [hg]
  · rename_i j want hg
    rw [hg]
    simp only [yielded]
    split at h
    · rename_i hd
      cases h
      rw [hd]; rfl
    · rename_i d hd
      rw [hd]
      have hv := ht d
      simp only [Option.bind_some]
      split at h
      · rename_i b' hb
        cases h
        rw [hb] at hv
        have e1 : tmps.getD d undef = .bool b' := hv
        have hlt : d < tmps.size := by
          by_cases k : d < tmps.size
          · exact k
          · simp [Array.getD, k, undef] at e1
        have e2 : tmps[d]? = some (.bool b') := by
          simp only [Array.getD, hlt, dif_pos] at e1
          simp [hlt]
          exact e1
        rw [e2]
        cases b' <;> cases want <;> rfl
      · rename_i hb
        cases h
        rw [hb] at hv
        obtain ⟨us, hus, e1⟩ := hv
        cases hus
        by_cases hlt : d < tmps.size
        · have e2 : tmps[d]? = some (.tuple #[]) := by
            simp only [Array.getD, hlt, dif_pos] at e1
            simp [hlt]
            exact e1
          rw [e2]; rfl
        · have e2 : tmps[d]? = none := Array.getElem?_eq_none (Nat.le_of_not_lt hlt)
          rw [e2]; rfl
      · cases h
theorem act_put {a : Act} {d : Option Tmp} {u : Value} {N : Nat} (hs : a.tmps.size = N) (hd : ∀ k, d = some k → k < N) (t : Nat) : (a.put d u).tmps.getD t undef = if d = some t then u else a.tmps.getD t undef := by
  cases d with
  | none => simp [Act.put]
  | some k =>
    show (a.tmps.setIfInBounds k u).getD t undef = _
    rw [getD_set _ _ _ _ _ (hs ▸ hd k rfl)]
    by_cases e : t = k
    · subst e; simp
    · have : ¬ some k = some t := fun x => e (Option.some.inj x).symm
      simp [e, this]
theorem act_put_size {a : Act} {d : Option Tmp} {u : Value} : (a.put d u).tmps.size = a.tmps.size := by
  cases d <;> simp [Act.put]
/-- What is the same in all orders. -/
structure DCtx (X : Rk) (C : Ctx) (ops : Array Oper) (N n0 : Nat) (T0 : TM) (A : Acc) : Prop where
  ok : AccOk (ancs ops.toList []) T0 ops.size A
  fact : ∀ i o, ops[i]? = some o → ∃ v b, A.ws[i]? = some (o.dst, v) ∧ (∀ d, o.dst = some d → d < N) ∧ swantedV ops (before T0 A.ws i) o = .ok b ∧ Fact X C n0 A i o (ancAt (ancs ops.toList []) i) (before T0 A.ws i) v b
  names : ∀ i k o o', ops[i]? = some o → ops[k]? = some o' → k < i → clash (o'.dst, reads ops o') (o.dst, reads ops o) = true → (ancAt (ancs ops.toList []) i).testBit k = true
  lt : ∀ i, (ancAt (ancs ops.toList []) i) < 2 ^ i
  free : ∀ h ∈ A.hist, ∀ i b, (i, b) ∈ A.al → h.ab.testBit i = false → h.S.get (n0 + i) = none
  loads : ∀ i t x v anc, (i, t, x, v, anc) ∈ A.ls → ∀ h ∈ A.hist, inWin (ancs ops.toList []) i anc A.cur.mn h = true → evLoad C t x (addA n0 anc.testBit h.ab.testBit h.S A.al) = .ok v
structure DInv (C : Ctx) (E : Val) (ops : Array Oper) (N n0 : Nat) (T0 : TM) (A : Acc) (ds : List Nat) (ρ0 : Rho) (H0 : SH) (w0 : World) (L : Nat → Bool) (ρ : Rho) (h : Hs) (a : Act) (w : World) : Prop where
  hh : h ∈ A.hist
  mn : ∀ k, h.mn.testBit k = (A.cur.mn.testBit k && L k)
  tv : ∀ t, Den E ρ ((lastW L 0 A.ws t).getD (T0.val t)) (a.tmps.getD t undef)
  sz : a.tmps.size = N
  ds : DsR ρ ds a.defers
  glo : Glo C.G ρ
  rel : HRel E ρ (addA n0 L h.ab.testBit h.S A.al) w
  fresh : ∀ s, h.n ≤ s → ρ s = none
  nn : n0 + ops.size ≤ h.n
  nal : ∀ i b, (i, b) ∈ A.al → L i = false → ρ (n0 + i) = none
  ext : ∀ s, s < n0 → ρ s = ρ0 s
  fr : FrS (fpw E ρ0 H0) w0 w
  cl : ∀ k, fp E ρ (addA n0 L h.ab.testBit h.S A.al) k → fp E ρ0 H0 k ∨ w0.heap.size ≤ k
  clw : ∀ k, fpw E ρ (addA n0 L h.ab.testBit h.S A.al) k → fpw E ρ0 H0 k ∨ w0.heap.size ≤ k
variable {X : Rk} {ops : Array Oper} {N n0 : Nat} {T0 : TM} {A : Acc} {ds : List Nat} {ρ0 ρ : Rho} {H0 : SH} {w0 w : World} {L : Nat → Bool} {h : Hs} {a : Act}
/-- An operation that may come now: what it looks at is as it was reckoned. -/
structure Ready (ops : Array Oper) (L : Nat → Bool) (i : Nat) (o : Oper) : Prop where
  op : ops[i]? = some o
  not : L i = false
  cl : ClosedL ops L
  anc : ∀ k, (ancAt (ancs ops.toList []) i).testBit k = true → L k = true
theorem ws_op (D : DCtx X C ops N n0 T0 A) {k : Nat} {d : Option Tmp} {v : SV} (h : A.ws[k]? = some (d, v)) : ∃ o, ops[k]? = some o ∧ o.dst = d := by
  have hlt := (List.getElem?_eq_some_iff.1 h).1
  rw [D.ok.len] at hlt
  obtain ⟨v', b, h1, _⟩ := D.fact k ops[k] (by simp [hlt])
  refine ⟨ops[k], by simp [hlt], ?_⟩
  rw [h] at h1
  simp at h1
  exact h1.1.symm
theorem anc_closed (D : DCtx X C ops N n0 T0 A) (hL : ClosedL ops L) {k : Nat} {o : Oper} (ho : ops[k]? = some o) (hk : L k = true) : ∀ j, (ancAt (ancs ops.toList []) k).testBit j = true → L j = true :=
  anc_sub hL k o ho (fun e he hb => hL k o hk ho e he hb)
theorem reads_same (D : DCtx X C ops N n0 T0 A) {i : Nat} {o : Oper} (r : Ready ops L i o) : ∀ t ∈ reads ops o, (lastW L 0 A.ws t).getD (T0.val t) = before T0 A.ws i t := by
  intro t ht
  unfold before
  congr 1
  refine lastW_congr (fun k v hk => ?_)
  obtain ⟨o', ho', hd'⟩ := ws_op D hk
  rw [Nat.zero_add]
  by_cases hlt : k < i
  · have hc : clash (o'.dst, reads ops o') (o.dst, reads ops o) = true := by
      simp [clash, hd', ht]
    have := r.anc k (D.names i k o o' r.op ho' hlt hc)
    simp [this, hlt]
  · by_cases he : k = i
    · subst he; simp [r.not]
    · have hc : clash (o.dst, reads ops o) (o'.dst, reads ops o') = true := by
        simp [clash, hd', ht]
      have hanc := D.names k i o' o ho' r.op (by omega) hc
      cases hk2 : L k
      · simp [hlt]
      · have := anc_closed D r.cl ho' hk2 i hanc
        rw [r.not] at this; cases this
theorem after_val (D : DCtx X C ops N n0 T0 A) {i : Nat} {o : Oper} {v : SV} (r : Ready ops L i o) (hw : A.ws[i]? = some (o.dst, v)) (t : Nat) :
    (lastW (updL L i) 0 A.ws t).getD (T0.val t) = if o.dst = some t then v else (lastW L 0 A.ws t).getD (T0.val t) := by
  by_cases e : o.dst = some t
  · rw [if_pos e, lastW_last (j := i) (v := v) (by rw [hw, e]) (by rw [Nat.zero_add]; exact updL_same) (fun k u hk hl => ?_)]
    · rfl
    · obtain ⟨o', ho', hd'⟩ := ws_op D hl
      rw [Nat.zero_add, updL_other (by omega)]
      have hc : clash (o.dst, reads ops o) (o'.dst, reads ops o') = true := by
        simp [clash, hd', e]
      have hanc := D.names k i o' o ho' r.op hk hc
      cases hk2 : L k
      · rfl
      · have := anc_closed D r.cl ho' hk2 i hanc
        rw [r.not] at this; cases this
  · rw [if_neg e]
    congr 1
    refine lastW_congr (fun k u hk => ?_)
    rw [Nat.zero_add]
    refine updL_other ?_
    rintro rfl
    rw [hw] at hk
    simp at hk
    exact e hk.1
/-- An operation that leaves the world as it is. -/
theorem DInv.same (D : DCtx X C ops N n0 T0 A) (I : DInv C E ops N n0 T0 A ds ρ0 H0 w0 L ρ h a w) {i : Nat} {o : Oper} {v : SV} {u : Value} (r : Ready ops L i o) (hw : A.ws[i]? = some (o.dst, v)) (hd : ∀ d, o.dst = some d → d < N)
    (hm : NoM A i) (ha : NoA A i) (hu : Den E ρ v u) : DInv C E ops N n0 T0 A ds ρ0 H0 w0 (updL L i) ρ h (a.put o.dst u) w := by
  have e : addA n0 (updL L i) h.ab.testBit h.S A.al = addA n0 L h.ab.testBit h.S A.al := addA_congr (fun k b hk => updL_other (by rintro rfl; exact ha b hk))
  refine ⟨I.hh, fun k => ?_, fun t => ?_, by rw [act_put_size]; exact I.sz, by rw [put_defers]; exact I.ds, I.glo, by rw [e]; exact I.rel, I.fresh, I.nn, fun k b hk hL => I.nal k b hk (by simp [updL] at hL; exact hL.1), I.ext, I.fr, by rw [e]; exact I.cl, by rw [e]; exact I.clw⟩
  · by_cases hk : k = i
    · subst hk
      rw [hm h I.hh, hm _ D.ok.cur]; rfl
    · rw [updL_other hk]; exact I.mn k
  · rw [after_val D r hw, act_put I.sz hd]
    split
    · exact hu
    · exact I.tv t
end
end Go.Proofs.YtfiangiajhdhcaaDoor
