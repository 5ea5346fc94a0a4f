/- The reckoner: calls over things. No condition. -/
import Derived.Test.YtfiangiajhdhcaaDoorV30
namespace Go.Proofs.YtfiangiajhdhcaaDoor
open Go.RowKit
set_option linter.unusedVariables false
set_option maxRecDepth 100000

/-! ### Calls over things that are told by a word -/
structure AbsC where
  f : FuncId
  args : List SV
  pre : List SBlk
  post : List SBlk
  made : List SBlk
  v : SV
noncomputable def rhoS (bs : List Place) : Rho := fun k => bs[k]?
noncomputable def SBlk.beq' : SBlk → SBlk → Bool
  | .abs i a, .abs j b => i == j && a == b
  | .bld t a v, .bld t' a' v' => t == t' && (a == a' && SV.beq v v')
  | .win i l, .win j m => i == j && SV.beqL l m
  | a, b => SBlk.beq a b
theorem SBlk.eq_of_beq' {a b : SBlk} (h : SBlk.beq' a b = true) : a = b := by
  unfold SBlk.beq' at h
  split at h
  · simp only [Bool.and_eq_true, beq_iff_eq] at h; rw [h.1, h.2]
  · simp only [Bool.and_eq_true, beq_iff_eq] at h; rw [h.1, h.2.1, SV.eq_of_beq h.2.2]
  · simp only [Bool.and_eq_true, beq_iff_eq] at h; rw [h.1, SV.eq_of_beqL h.2]
  · exact SBlk.eq_of_beq h
noncomputable def SV.ren1 (r : Nat → Nat) : SV → SV
  | .ptr k o => .ptr (r k) o
  | .asl s len sz foc els => .asl (r s) len sz foc els
  | v => v
noncomputable def SV.ren (r : Nat → Nat) : SV → SV
  | .tup l => .tup (l.map (SV.ren1 r))
  | v => v.ren1 r
noncomputable def SV.strip : SV → SV
  | .asl s len sz _ _ => .asl s len sz [] []
  | v => v
/-- What may stand in a pattern. -/
noncomputable def SV.pat1 : SV → Bool
  | .ptr _ _ => true
  | .int _ _ => true
  | .bool _ => true
  | .str _ => true
  | .txt _ => true
  | .nptr => true
  | .nslice => true
  | .atom _ => true
  | .asl _ _ _ [] _ => true
  | .side _ => true
  | .agg l => l.all SV.plain1
  | _ => false
noncomputable def SV.pat : SV → Bool
  | .tup l => l.all SV.pat1
  | v => v.pat1
noncomputable def svName : SV → List Nat
  | .ptr s _ => [s]
  | .asl s _ _ _ _ => [s]
  | _ => []
noncomputable def dedup : List Nat → List Nat → List Nat
  | [], acc => acc.reverse
  | s :: l, acc => if acc.contains s then dedup l acc else dedup l (s :: acc)
noncomputable def blkNames (b : Option SBlk) : List Nat := match b with | some (.cells l _) => l.flatMap svName | _ => []
/-- The things that a call is about: those that its arguments name, and those that these name. -/
noncomputable def things (H : SH) (args : List SV) : List Nat :=
  let l := dedup (args.flatMap svName) []
  dedup (l ++ l.flatMap fun s => blkNames (H.get s)) []
noncomputable def SBlk.ren (r : Nat → Nat) : SBlk → SBlk
  | .cells l e => .cells (l.map (SV.ren1 r)) e
  | b => b
noncomputable def SBlk.pat : SBlk → Bool
  | .cells l _ => l.all SV.pat1
  | .abs _ _ => true
  | _ => false
/-- A block's cells without what is known of lists' elements. -/
noncomputable def SBlk.strip : SBlk → SBlk
  | .cells l e => .cells (l.map SV.strip) e
  | b => b
noncomputable def isAbsB (i : SBlk) : Option SBlk → Bool
  | some b => SBlk.beq' i b.strip
  | _ => false
noncomputable def preOk (H : SH) (r : Nat → Nat) : List Nat → List SBlk → Bool
  | [], [] => true
  | s :: ns, i :: is => isAbsB (i.ren r) (H.get s) && (!(ns.contains s) && preOk H r ns is)
  | _, _ => false
noncomputable def putAbs : List Nat → List SBlk → SH → SH
  | s :: ns, i :: is, H => (putAbs ns is H).set s i
  | _, _, H => H
noncomputable def nmOf (ns : List Nat) (n k : Nat) : Nat := match ns[k]? with | some s => s | none => n + (k - ns.length)
noncomputable def newNames (n m : Nat) : List Nat := (List.range m).map (n + ·)
noncomputable def AbsC.run (c : AbsC) (ts : List (Nat × List SV)) (args : List SV) (H : SH) (n : Nat) : Option (SV × SH × Nat) :=
  let ns := things H args
  if (SV.beqL (c.args.map (SV.ren (nmOf ns n))) (args.map SV.strip) && preOk H (nmOf ns n) ns c.pre) && tabsHere ts H then
    some (c.v.ren (nmOf ns n), putAbs (ns ++ newNames n c.made.length) ((c.post ++ c.made).map (SBlk.ren (nmOf ns n))) H, n + c.made.length) else none
noncomputable def tryAbs (ts : List (Nat × List SV)) (f : FuncId) (args : List SV) (H : SH) (n : Nat) : List AbsC → Option (SV × SH × Nat)
  | [] => none
  | c :: l => if c.f = f then (match c.run ts args H n with | some r => some r | none => tryAbs ts f args H n l) else tryAbs ts f args H n l
noncomputable def absBase (ts : List (Nat × List SV)) (l : List AbsC) : Base := { call := fun f args H n => tryAbs ts f args H n l }
/-- What holds behind such a call. -/
structure AbsPost (E : Val) (c : AbsC) (bs nb : List Place) (u : Value) (w w' : World) : Prop where
  len : nb.length = c.made.length
  den : Den E (rhoS (bs ++ nb)) c.v u
  is : ∀ (k : Nat) (j : SBlk) (b : Place), (c.post ++ c.made)[k]? = some j → (bs ++ nb)[k]? = some b → BRel E (rhoS (bs ++ nb)) w' b j
  old : ∀ (k : Nat) (i j : SBlk) (b : Place) (x : Nat), c.pre[k]? = some i → c.post[k]? = some j → bs[k]? = some b → foot E j b x → foot E i b x ∨ w.heap.size ≤ x
  fresh : ∀ (k : Nat) (j : SBlk) (b : Place) (x : Nat), c.made[k]? = some j → nb[k]? = some b → foot E j b x → w.heap.size ≤ x
  apart : ∀ (k l : Nat) (i j : SBlk) (b d : Place) (x : Nat), (c.post ++ c.made)[k]? = some i → (c.post ++ c.made)[l]? = some j → (bs ++ nb)[k]? = some b → (bs ++ nb)[l]? = some d → foot E i b x → foot E j d x → k = l
  fr : FrS (fun x => ∃ (k : Nat) (i : SBlk) (b : Place), c.pre[k]? = some i ∧ i.rw = true ∧ bs[k]? = some b ∧ foot E i b x) w w'
noncomputable def AbsOk (P : Program) (G : Nat) (ts : List (Nat × List SV)) (E : Val) (c : AbsC) : Prop :=
  ∀ (bs : List Place) (us : List Value) (w : World), bs.length = c.pre.length → TabsIn E G ts w → (∀ (k : Nat) (i : SBlk) (b : Place), c.pre[k]? = some i → bs[k]? = some b → BRel E (rhoS bs) w b i) →
    (∀ (k l : Nat) (i j : SBlk) (b d : Place) (x : Nat), c.pre[k]? = some i → c.pre[l]? = some j → bs[k]? = some b → bs[l]? = some d → foot E i b x → foot E j d x → k = l) → (∀ (k : Nat) (i : SBlk) (b : Place) (x : Nat), c.pre[k]? = some i → i.rw = true → bs[k]? = some b → foot E i b x → ¬ E.Kf x) →
    (∀ (k : Nat) (i : SBlk) (b : Place) (g : Nat) (l : List SV), c.pre[k]? = some i → bs[k]? = some b → (g, l) ∈ ts → ¬ foot E i b g) →
    DenL E (rhoS bs) c.args us → Calls P c.f us.toArray w fun e w' => ∃ u nb, e = .returned u ∧ AbsPost E c bs nb u w w'
theorem strip_ok {E : Val} {ρ : Rho} {v : SV} {u : Value} (h : Den E ρ v u) : Den E ρ v.strip u := by
  cases v <;> try exact h
  case asl t len sz foc els =>
    obtain ⟨q, h0, h1, h2, av, c, h3, _⟩ := h
    exact ⟨q, h0, h1, h2, av, c, h3, fun x hx => (by cases hx), fun x hx => by cases hx⟩
theorem stripL_ok {E : Val} {ρ : Rho} : ∀ {l : List SV} {us : List Value}, DenL E ρ l us → DenL E ρ (l.map SV.strip) us
  | [], us, h => h
  | v :: l, us, ⟨u, t, h1, h2, h3⟩ => ⟨u, t, strip_ok h1, stripL_ok h2, h3⟩
/-- Out of names into places, and back. -/
theorem ren1_ok {E : Val} {ρ ρ' : Rho} {r : Nat → Nat} (hr : ∀ k p, ρ (r k) = some p → ρ' k = some p) {v : SV} {u : Value} (hp : v.pat1 = true) (h : Den E ρ (v.ren1 r) u) : Den E ρ' v u := by
  cases v <;> try (simp [SV.pat1] at hp; done)
  case ptr k o =>
    obtain ⟨p, k1, k2⟩ := h
    exact ⟨p, hr k p k1, k2⟩
  case agg l =>
    obtain ⟨a, ha, rfl⟩ := h
    exact ⟨a, plain1L_ok hp ha, rfl⟩
  case asl t len sz foc els =>
    cases foc <;> try (simp [SV.pat1] at hp; done)
    obtain ⟨q, h0, h1, h2, av, c, h3, _, h4⟩ := h
    exact ⟨q, hr t q h0, h1, h2, av, c, h3, fun x hx => (by cases hx), h4⟩
  all_goals exact h
theorem ren1L_ok {E : Val} {ρ ρ' : Rho} {r : Nat → Nat} (hr : ∀ k p, ρ (r k) = some p → ρ' k = some p) : ∀ {l : List SV} {us : List Value}, l.all SV.pat1 = true → DenL E ρ (l.map (SV.ren1 r)) us → DenL E ρ' l us
  | [], us, _, h => h
  | v :: l, us, hp, ⟨u, t, h1, h2, h3⟩ => by
    simp only [List.all_cons, Bool.and_eq_true] at hp
    exact ⟨u, t, ren1_ok hr hp.1 h1, ren1L_ok hr hp.2 h2, h3⟩
theorem ren1_mk {E : Val} {ρ ρ' : Rho} {r : Nat → Nat} (hr : ∀ k q, ρ' k = some q → ρ (r k) = some q) {v : SV} {u : Value} (hp : v.pat1 = true) (h : Den E ρ' v u) : Den E ρ (v.ren1 r) u := by
  cases v <;> try (simp [SV.pat1] at hp; done)
  case ptr k o =>
    obtain ⟨q, k1, k2⟩ := h
    exact ⟨q, hr k q k1, k2⟩
  case agg l =>
    obtain ⟨a, ha, rfl⟩ := h
    exact ⟨a, plain1L_ok hp ha, rfl⟩
  case asl t len sz foc els =>
    cases foc <;> try (simp [SV.pat1] at hp; done)
    obtain ⟨q, h0, h1, h2, av, c, h3, _, h4⟩ := h
    exact ⟨q, hr t q h0, h1, h2, av, c, h3, fun x hx => (by cases hx), h4⟩
  all_goals exact h
theorem ren1L_mk {E : Val} {ρ ρ' : Rho} {r : Nat → Nat} (hr : ∀ k q, ρ' k = some q → ρ (r k) = some q) : ∀ {l : List SV} {us : List Value}, l.all SV.pat1 = true → DenL E ρ' l us → DenL E ρ (l.map (SV.ren1 r)) us
  | [], us, _, h => h
  | v :: l, us, hp, ⟨u, t, h1, h2, h3⟩ => by
    simp only [List.all_cons, Bool.and_eq_true] at hp
    exact ⟨u, t, ren1_mk hr hp.1 h1, ren1L_mk hr hp.2 h2, h3⟩
theorem ren_mk {E : Val} {ρ ρ' : Rho} {r : Nat → Nat} (hr : ∀ k q, ρ' k = some q → ρ (r k) = some q) {v : SV} {u : Value} (hp : v.pat = true) (h : Den E ρ' v u) : Den E ρ (v.ren r) u := by
  have key : v.pat1 = true → Den E ρ (v.ren1 r) u := fun hp1 => ren1_mk hr hp1 h
  cases v
  case tup l =>
    obtain ⟨a, ha, rfl⟩ := h
    exact ⟨a, ren1L_mk hr hp ha, rfl⟩
  all_goals exact key hp
theorem renB_ok {E : Val} {ρ ρ' : Rho} {r : Nat → Nat} (hr : ∀ k p, ρ (r k) = some p → ρ' k = some p) {b : SBlk} {w : World} {p : Place} (hp : b.pat = true) (h : BRel E ρ w p (b.ren r)) : BRel E ρ' w p b := by
  cases b <;> try (simp [SBlk.pat] at hp; done)
  case cells l e =>
    obtain ⟨c, el, us, h1, h2, h3, h4, h5⟩ := h
    exact ⟨c, el, us, h1, ren1L_ok hr hp h2, h3, by simpa using h4, h5⟩
  case abs i wr => exact h
theorem renB_mk {E : Val} {ρ ρ' : Rho} {r : Nat → Nat} (hr : ∀ k q, ρ' k = some q → ρ (r k) = some q) {b : SBlk} {w : World} {p : Place} (hp : b.pat = true) (h : BRel E ρ' w p b) : BRel E ρ w p (b.ren r) := by
  cases b <;> try (simp [SBlk.pat] at hp; done)
  case cells l e =>
    obtain ⟨c, el, us, h1, h2, h3, h4, h5⟩ := h
    exact ⟨c, el, us, h1, ren1L_mk hr hp h2, h3, by simpa using h4, h5⟩
  case abs i wr => exact h
theorem foot_ren {E : Val} {b : SBlk} {r : Nat → Nat} {p : Place} {x : Nat} : foot E (b.ren r) p x ↔ foot E b p x := by
  cases b <;> exact Iff.rfl
theorem rw_ren {b : SBlk} {r : Nat → Nat} : (b.ren r).rw = b.rw := by cases b <;> rfl
theorem stripB_ok {E : Val} {ρ : Rho} {b : SBlk} {w : World} {p : Place} (hb : BRel E ρ w p b) : BRel E ρ w p b.strip := by
  cases b <;> try exact hb
  case cells l e =>
    obtain ⟨c, el, us, h1, h2, h3, h4, h5⟩ := hb
    exact ⟨c, el, us, h1, stripL_ok h2, h3, by simpa using h4, h5⟩
theorem foot_strip {E : Val} {b : SBlk} {p : Place} {x : Nat} : foot E b.strip p x ↔ foot E b p x := by
  cases b <;> exact Iff.rfl
theorem rw_strip {b : SBlk} : b.strip.rw = b.rw := by cases b <;> rfl
theorem preOk_ok {H : SH} {r : Nat → Nat} : ∀ {ns : List Nat} {is : List SBlk}, preOk H r ns is = true → ns.length = is.length ∧ (∀ (k s : Nat) (i : SBlk), ns[k]? = some s → is[k]? = some i → ∃ b, H.get s = some b ∧ b.strip = i.ren r) ∧ (∀ (k l s : Nat), ns[k]? = some s → ns[l]? = some s → k = l)
  | [], [], _ => ⟨rfl, fun k s i h => by simp at h, fun k l s h => by simp at h⟩
  | [], _ :: _, h => by simp [preOk] at h
  | _ :: _, [], h => by simp [preOk] at h
  | s :: ns, i :: is, h => by
    simp only [preOk, Bool.and_eq_true, Bool.not_eq_true', List.contains_eq_mem, decide_eq_false_iff_not] at h
    obtain ⟨h1, h2, h3⟩ := h
    obtain ⟨g1, g2, g3⟩ := preOk_ok h3
    refine ⟨by simp [g1], fun k t j hk hj => ?_, fun k l t hk hl => ?_⟩
    · cases k with
      | zero =>
        simp at hk hj; subst hk hj
        unfold isAbsB at h1
        split at h1
        · rename_i b e; exact ⟨b, e, (SBlk.eq_of_beq' h1).symm⟩
        · cases h1
      | succ k => exact g2 k t j (by simpa using hk) (by simpa using hj)
    · cases k <;> cases l
      · rfl
      · simp at hk hl; subst hk; exact absurd (List.mem_of_getElem? hl) h2
      · simp at hk hl; subst hl; exact absurd (List.mem_of_getElem? hk) h2
      · congr 1; exact g3 _ _ t (by simpa using hk) (by simpa using hl)
theorem putAbs_get {H : SH} {t : Nat} {b : SBlk} : ∀ {ns : List Nat} {is : List SBlk}, ns.length = is.length → (putAbs ns is H).get t = some b → (∃ (k : Nat), ns[k]? = some t ∧ is[k]? = some b) ∨ ((∀ k : Nat, ns[k]? ≠ some t) ∧ H.get t = some b)
  | [], [], _, h => .inr ⟨fun k => by simp, h⟩
  | [], _ :: _, e, _ => by simp at e
  | _ :: _, [], e, _ => by simp at e
  | s :: ns, i :: is, e, h => by
    simp only [putAbs, Tr.get_set] at h
    split at h
    · rename_i e1; subst e1; cases h; exact .inl ⟨0, rfl, rfl⟩
    · rename_i e1
      rcases putAbs_get (ns := ns) (is := is) (by simpa using e) h with ⟨k, h1, h2⟩ | ⟨h1, h2⟩
      · exact .inl ⟨k + 1, by simpa using h1, by simpa using h2⟩
      · refine .inr ⟨fun k => ?_, h2⟩
        cases k with
        | zero => simp; exact fun e2 => e1 e2.symm
        | succ k => simpa using h1 k
theorem newNames_get {n m k : Nat} : (newNames n m)[k]? = if k < m then some (n + k) else none := by
  simp only [newNames, List.getElem?_map]
  by_cases h : k < m
  · simp [h]
  · simp [h]
theorem absRun_ok {P : Program} {A : Asm} {G : Nat} {E : Val} {ts : List (Nat × List SV)} (hts : ∀ g l, (g, l) ∈ ts → g < G ∧ l.all SV.isLit = true) {c : AbsC} (hc1 : c.pre.length = c.post.length) (hc2 : c.args.all SV.pat1 = true) (hc3 : c.v.pat = true)
    (hc4 : c.pre.all SBlk.pat = true) (hc5 : (c.post ++ c.made).all SBlk.pat = true) (hc6 : ∀ (k : Nat) (i j : SBlk), c.pre[k]? = some i → c.post[k]? = some j → j.rw = true → i.rw = true) (ok : AbsOk P G ts E c)
    {args : List SV} {H : SH} {n : Nat} {v : SV} {H' : SH} {n' : Nat} (h : c.run ts args H n = some (v, H', n')) {ρ : Rho} {w : World} {as : List Value} (r : StR E ρ H n w) (hg : Glo G ρ) (ha : DenL E ρ args as) :
    Calls P c.f as.toArray w fun e w' => ∃ u ρ', e = .returned u ∧ Stp E ρ H n w ρ' H' n' w' ∧ Den E ρ' v u := by
  simp only [AbsC.run] at h
  split at h
  case isFalse => cases h
  rename_i hq
  simp only [Bool.and_eq_true] at hq
  obtain ⟨⟨q1, q2⟩, q3⟩ := hq
  cases h
  obtain ⟨n1, n2, n3⟩ := preOk_ok q2
  generalize things H args = ns at q1 n1 n2 n3 ⊢
  have hT : TabsIn E G ts w := tabsHere_ok (C := ⟨P, A, G⟩) (fun g l hm => ⟨(hts g l hm).1, fun ρ us hd => DenL.lits (hts g l hm).2 hd⟩) r.rel hg q3
  have named : ∀ s p, ρ s = some p → s < n := fun s p hp => by
    rcases Nat.lt_or_ge s n with h | h
    · exact h
    · rw [r.fresh s h] at hp; cases hp
  have barePre : ∀ (k : Nat) (i : SBlk), c.pre[k]? = some i → i.pat = true := fun k i hi => List.all_eq_true.1 hc4 i (List.mem_of_getElem? hi)
  have barePost : ∀ (k : Nat) (i : SBlk), (c.post ++ c.made)[k]? = some i → i.pat = true := fun k i hi => List.all_eq_true.1 hc5 i (List.mem_of_getElem? hi)
  -- the places of the things
  let base : Nat → Place := fun s => (ρ s).getD ⟨0, 0, 0, undef⟩
  have hbase : ∀ (k s : Nat) (i : SBlk), ns[k]? = some s → c.pre[k]? = some i → ∃ b, H.get s = some b ∧ b.strip = i.ren (nmOf ns n) ∧ ρ s = some (base s) ∧ BRel E ρ w (base s) (i.ren (nmOf ns n)) := fun k s i hs hi => by
    obtain ⟨b, hb, hbi⟩ := n2 k s i hs hi
    obtain ⟨p, hp, hw⟩ := r.rel.blk _ _ hb
    have e : base s = p := by simp [base, hp]
    exact ⟨b, hb, hbi, by rw [e]; exact hp, by rw [e, ← hbi]; exact stripB_ok hw⟩
  have hbl : ∀ (k : Nat) (b : Place), (ns.map base)[k]? = some b → ∃ s i d, ns[k]? = some s ∧ c.pre[k]? = some i ∧ ρ s = some b ∧ BRel E ρ w b (i.ren (nmOf ns n)) ∧ H.get s = some d ∧ d.strip = i.ren (nmOf ns n) := fun k b hb => by
    simp only [List.getElem?_map, Option.map_eq_some_iff] at hb
    obtain ⟨s, hs, rfl⟩ := hb
    have hlt : k < c.pre.length := n1 ▸ (List.getElem?_eq_some_iff.1 hs).1
    obtain ⟨d, h1, h2, h3, h4⟩ := hbase k s c.pre[k] hs (by simp [hlt])
    exact ⟨s, c.pre[k], d, hs, by simp [hlt], h3, h4, h1, h2⟩
  have slot : ∀ k p, ρ (nmOf ns n k) = some p → rhoS (ns.map base) k = some p := fun k p hp => by
    unfold nmOf at hp
    split at hp
    · rename_i s hs
      have hlt : k < c.pre.length := n1 ▸ (List.getElem?_eq_some_iff.1 hs).1
      obtain ⟨d, _, _, g1, _⟩ := hbase k s c.pre[k] hs (by simp [hlt])
      rw [g1] at hp; cases hp
      simp [rhoS, hs]
    · rw [r.fresh _ (by omega)] at hp; cases hp
  have hargs : DenL E (rhoS (ns.map base)) c.args as := by
    have h1 := stripL_ok ha
    rw [← SV.eq_of_beqL q1] at h1
    have h2 : c.args.map (SV.ren (nmOf ns n)) = c.args.map (SV.ren1 (nmOf ns n)) := List.map_congr_left fun x hx => by
      have := List.all_eq_true.1 hc2 x hx
      cases x <;> first | rfl | simp [SV.pat1] at this
    rw [h2] at h1
    exact ren1L_ok slot hc2 h1
  have hcall := ok (ns.map base) as w (by simp [n1]) hT (fun k i b hi hb => by
      obtain ⟨s, j, d, g1, g2, g3, g4, _⟩ := hbl k b hb
      rw [hi] at g2; cases g2; exact renB_ok slot (barePre k i hi) g4)
    (fun k l i j b d x hi hj hb hd f1 f2 => by
      obtain ⟨s, i', d1, g1, g2, g3, g4, g5, g6⟩ := hbl k b hb
      obtain ⟨t, j', d2, k1, k2, k3, k4, k5, k6⟩ := hbl l d hd
      rw [hi] at g2; cases g2
      rw [hj] at k2; cases k2
      have := r.rel.inj s t _ _ b d x g5 k5 g3 k3 (foot_strip.1 (g6 ▸ foot_ren.2 f1)) (foot_strip.1 (k6 ▸ foot_ren.2 f2))
      subst this
      exact n3 k l s g1 k1)
    (fun k i b x hi hrw hb hf => by
      obtain ⟨s, i', d1, g1, g2, g3, g4, g5, g6⟩ := hbl k b hb
      rw [hi] at g2; cases g2
      exact fun hk => r.rel.free x hk ⟨s, d1, b, g5, by rw [← rw_strip, g6, rw_ren]; exact hrw, g3, foot_strip.1 (g6 ▸ foot_ren.2 hf)⟩)
    (fun k i b g l hi hb hm hf => by
      obtain ⟨s, i', d1, g1, g2, g3, g4, g5, g6⟩ := hbl k b hb
      rw [hi] at g2; cases g2
      have h3 := List.all_eq_true.1 q3 (g, l) hm
      dsimp only at h3
      split at h3
      · rename_i l' hl
        obtain ⟨e, he⟩ := hg g (hts g l hm).1
        have := r.rel.inj g s _ d1 _ b g hl g5 he g3 rfl (foot_strip.1 (g6 ▸ foot_ren.2 hf))
        subst this
        rw [hl] at g5; cases g5
        have h7 := barePre k i hi
        cases i <;> simp [SBlk.pat] at h7 <;> simp [SBlk.strip, SBlk.ren] at g6
      · cases h3) hargs
  refine (callsIn_wide (n := 0)).1 (CallsIn.mono ((callsIn_wide (n := 0)).2 hcall) ?_)
  rintro e w' ⟨u, nb, rfl, p⟩
  -- the names behind it
  let ρ' : Rho := fun t => if n ≤ t then nb[t - n]? else ρ t
  have ext : ∀ s, s < n → ρ' s = ρ s := fun s hs => by simp only [ρ']; rw [if_neg (by omega)]
  have hle : ρ.le ρ' := fun s q hs => by rw [ext s (named s q hs)]; exact hs
  have hlen : (ns ++ newNames n c.made.length).length = ((c.post ++ c.made).map (SBlk.ren (nmOf ns n))).length := by simp [newNames, n1, hc1]
  -- where a thing lies behind the call
  have thing : ∀ (k t : Nat) (j : SBlk), (ns ++ newNames n c.made.length)[k]? = some t → (c.post ++ c.made)[k]? = some j → ∃ q, ρ' t = some q ∧ (ns.map base ++ nb)[k]? = some q ∧
      ((∃ i d, c.pre[k]? = some i ∧ c.post[k]? = some j ∧ ns[k]? = some t ∧ (ns.map base)[k]? = some q ∧ H.get t = some d ∧ d.strip = i.ren (nmOf ns n) ∧ ρ t = some q) ∨ (∃ l : Nat, c.made[l]? = some j ∧ nb[l]? = some q ∧ t = n + l)) := fun k t j ht hj => by
    by_cases hk : k < ns.length
    · rw [List.getElem?_append_left hk] at ht
      rw [List.getElem?_append_left (by omega)] at hj
      have hlt : k < c.pre.length := by omega
      obtain ⟨d, g0, g1, g2, g3⟩ := hbase k t c.pre[k] ht (by simp [hlt])
      have hb : (ns.map base)[k]? = some (base t) := by simp [ht]
      exact ⟨base t, hle _ _ g2, by rw [List.getElem?_append_left (by simpa using hk)]; exact hb, .inl ⟨c.pre[k], d, by simp [hlt], hj, ht, hb, g0, g1, g2⟩⟩
    · rw [List.getElem?_append_right (by omega), newNames_get] at ht
      split at ht
      case isFalse => cases ht
      rename_i hl
      cases ht
      rw [List.getElem?_append_right (by omega)] at hj
      have hnb : k - ns.length < nb.length := by rw [p.len]; exact hl
      refine ⟨nb[k - ns.length], ?_, ?_, .inr ⟨k - ns.length, ?_, by simp [hnb], rfl⟩⟩
      · simp only [ρ']; rw [if_pos (by omega)]; simp [hnb]
      · rw [List.getElem?_append_right (by simp; omega)]; simp [hnb]
      · rw [← hj]; congr 1; omega
  -- what was there ahead of it, and is none of the things
  have other : ∀ (t : Nat) (b : SBlk), (∀ k : Nat, (ns ++ newNames n c.made.length)[k]? ≠ some t) → H.get t = some b → ∃ q, ρ t = some q ∧ ρ' t = some q ∧ BRel E ρ w q b ∧ ∀ x, foot E b q x → ¬ ∃ (k : Nat) (i : SBlk) (b' : Place), c.pre[k]? = some i ∧ i.rw = true ∧ (ns.map base)[k]? = some b' ∧ foot E i b' x := fun t b hn hb => by
    obtain ⟨q, hq, hr⟩ := r.rel.blk _ _ hb
    refine ⟨q, hq, hle _ _ hq, hr, ?_⟩
    rintro x hx ⟨k, i, b', g1, _, g2, g3⟩
    obtain ⟨s, i', d, k1, k2, k3, k4, k5, k6⟩ := hbl k b' g2
    rw [g1] at k2; cases k2
    have := r.rel.inj t s b d q b' x hb k5 hq k3 hx (foot_strip.1 (k6 ▸ foot_ren.2 g3))
    subst this
    refine hn k ?_
    rw [List.getElem?_append_left (List.getElem?_eq_some_iff.1 k1).1]; exact k1
  have foot_thing : ∀ (k t : Nat) (j : SBlk) (q : Place) (x : Nat), (ns ++ newNames n c.made.length)[k]? = some t → (c.post ++ c.made)[k]? = some j → ρ' t = some q → foot E j q x → (∃ d, H.get t = some d ∧ ρ t = some q ∧ foot E d q x ∧ (j.rw = true → d.rw = true)) ∨ w.heap.size ≤ x := fun k t j q x ht hj hq hx => by
    obtain ⟨q', g1, g3, g4⟩ := thing k t j ht hj
    rw [hq] at g1; cases g1
    rcases g4 with ⟨i, d, k1, k2, k3, k4, k5, k7, k6⟩ | ⟨l, k1, k2, k3⟩
    · rcases p.old k i j q x k1 k2 k4 hx with z | z
      · exact .inl ⟨d, k5, k6, foot_strip.1 (k7 ▸ foot_ren.2 z), fun hj => by rw [← rw_strip, k7, rw_ren]; exact hc6 k i j k1 k2 hj⟩
      · exact .inr z
    · exact .inr (p.fresh l j q x k1 k2 hx)
  have back : ∀ k q, rhoS (ns.map base ++ nb) k = some q → ρ' (nmOf ns n k) = some q := fun k q hq => by
    simp only [rhoS] at hq
    unfold nmOf
    by_cases hk : k < ns.length
    · rw [List.getElem?_append_left (by simpa using hk)] at hq
      obtain ⟨s, i', d, k1, k2, k3, _⟩ := hbl k q hq
      rw [k1]
      exact hle _ _ k3
    · rw [List.getElem?_append_right (by simp; omega)] at hq
      have : ns[k]? = none := List.getElem?_eq_none (by omega)
      rw [this]
      simp only [ρ', List.length_map] at hq ⊢
      rw [if_pos (by omega), show n + (k - ns.length) - n = k - ns.length by omega, hq]
  have fr : FrS (fpw E ρ H) w w' := ⟨p.fr.os, p.fr.tape, p.fr.output, p.fr.size, fun k hk hn => p.fr.block k hk (fun hx => hn (by
    obtain ⟨j, i, b, g1, g0, g2, g3⟩ := hx
    obtain ⟨s, i', d, k1, k2, k3, k4, k5, k6⟩ := hbl j b g2
    rw [g1] at k2; cases k2
    exact ⟨s, d, b, k5, by rw [← rw_strip, k6, rw_ren]; exact g0, k3, foot_strip.1 (k6 ▸ foot_ren.2 g3)⟩))⟩
  have mapped : ∀ (k : Nat) (b : SBlk), ((c.post ++ c.made).map (SBlk.ren (nmOf ns n)))[k]? = some b → ∃ j, (c.post ++ c.made)[k]? = some j ∧ b = j.ren (nmOf ns n) := fun k b hb => by
    simp only [List.getElem?_map, Option.map_eq_some_iff] at hb
    obtain ⟨j, h1, h2⟩ := hb
    exact ⟨j, h1, h2.symm⟩
  have clw : ∀ x, fpw E ρ' (putAbs (ns ++ newNames n c.made.length) ((c.post ++ c.made).map (SBlk.ren (nmOf ns n))) H) x → fpw E ρ H x ∨ w.heap.size ≤ x := by
    rintro x ⟨t, b, q, h1, hw, h2, h3⟩
    rcases putAbs_get hlen h1 with ⟨k, g1, g2⟩ | ⟨g1, g2⟩
    · obtain ⟨bj, gm, rfl⟩ := mapped k _ g2
      rw [foot_ren] at h3
      rw [rw_ren] at hw
      rcases foot_thing k t bj q x g1 gm h2 h3 with ⟨d, z1, z2, z3, z4⟩ | z
      · exact .inl ⟨t, d, q, z1, z4 hw, z2, z3⟩
      · exact .inr z
    · obtain ⟨q', k1, k2, _⟩ := other t b g1 g2
      rw [k2] at h2; cases h2
      exact .inl ⟨t, b, _, g2, hw, k1, h3⟩
  refine ⟨u, ρ', rfl, ⟨ext, by omega, fun s hs => ?_, ⟨fun t b hb => ?_, fun s t bs bt ps pt x h1 h2 h3 h4 h5 h6 => ?_, r.rel.keep fr, r.rel.frees clw⟩, fr, ?_, clw⟩, ?_⟩
  · simp only [ρ']; rw [if_pos (by omega)]
    exact List.getElem?_eq_none (by rw [p.len]; omega)
  · rcases putAbs_get hlen hb with ⟨k, g1, g2⟩ | ⟨g1, g2⟩
    · obtain ⟨bj, gm, rfl⟩ := mapped k _ g2
      obtain ⟨q, k1, k3, _⟩ := thing k t bj g1 gm
      exact ⟨q, k1, renB_mk back (barePost k bj gm) (p.is k bj q gm k3)⟩
    · obtain ⟨q, k1, k2, k3, k4⟩ := other t b g1 g2
      exact ⟨q, k2, k3.mono hle (fun x hx => p.fr.block x (k3.ltf hx) (k4 x hx))⟩
  · have mixed : ∀ (s t : Nat) (bs bt : SBlk) (ps pt : Place), (∃ (k : Nat), (ns ++ newNames n c.made.length)[k]? = some s ∧ ((c.post ++ c.made).map (SBlk.ren (nmOf ns n)))[k]? = some bs) → ((∀ k : Nat, (ns ++ newNames n c.made.length)[k]? ≠ some t) ∧ H.get t = some bt) → ρ' s = some ps → ρ' t = some pt → foot E bs ps x → foot E bt pt x → False := by
      rintro s t bs bt ps pt ⟨k, g1, g2⟩ ⟨g3, g4⟩ h3 h4 h5 h6
      obtain ⟨bj, gm, rfl⟩ := mapped k _ g2
      rw [foot_ren] at h5
      obtain ⟨q, k1, k2, k3, k4⟩ := other t bt g3 g4
      rw [k2] at h4; cases h4
      rcases foot_thing k s bj ps x g1 gm h3 h5 with ⟨d, z1, z2, z3, _⟩ | z
      · have := r.rel.inj s t _ bt ps pt x z1 g4 z2 k1 z3 h6
        subst this
        exact g3 k g1
      · have := k3.ltf h6; omega
    rcases putAbs_get hlen h1 with g | g <;> rcases putAbs_get hlen h2 with g' | g'
    · obtain ⟨k, g1, g2⟩ := g
      obtain ⟨l, g3, g4⟩ := g'
      obtain ⟨bj, gm, rfl⟩ := mapped k _ g2
      obtain ⟨bl, gl, rfl⟩ := mapped l _ g4
      rw [foot_ren] at h5 h6
      obtain ⟨q, k1, k3, _⟩ := thing k s bj g1 gm
      obtain ⟨q', k1', k3', _⟩ := thing l t bl g3 gl
      rw [k1] at h3; cases h3
      rw [k1'] at h4; cases h4
      have := p.apart k l bj bl _ _ x gm gl k3 k3' h5 h6
      subst this
      rw [g1] at g3; cases g3; rfl
    · exact (mixed s t bs bt ps pt g g' h3 h4 h5 h6).elim
    · exact (mixed t s bt bs pt ps g' g h4 h3 h6 h5).elim
    · obtain ⟨q, k1, k2, _⟩ := other s bs g.1 g.2
      obtain ⟨q', k1', k2', _⟩ := other t bt g'.1 g'.2
      rw [k2] at h3; cases h3
      rw [k2'] at h4; cases h4
      exact r.rel.inj s t bs bt _ _ x g.2 g'.2 k1 k1' h5 h6
  · rintro x ⟨t, b, q, h1, h2, h3⟩
    rcases putAbs_get hlen h1 with ⟨k, g1, g2⟩ | ⟨g1, g2⟩
    · obtain ⟨bj, gm, rfl⟩ := mapped k _ g2
      rw [foot_ren] at h3
      rcases foot_thing k t bj q x g1 gm h2 h3 with ⟨d, z1, z2, z3, _⟩ | z
      · exact .inl ⟨t, d, q, z1, z2, z3⟩
      · exact .inr z
    · obtain ⟨q', k1, k2, _⟩ := other t b g1 g2
      rw [k2] at h2; cases h2
      exact .inl ⟨t, b, _, g2, k1, h3⟩
  · exact ren_mk back hc3 p.den
/-- A contract that may be used. -/
noncomputable def AbsC.fit (c : AbsC) : Bool := ((c.pre.length == c.post.length && c.args.all SV.pat1) && (c.v.pat && c.pre.all SBlk.pat)) && ((c.post ++ c.made).all SBlk.pat && (c.pre.zip c.post).all fun x => !x.2.rw || x.1.rw)
theorem absBase_ok {P : Program} {A : Asm} {G : Nat} {E : Val} {ts : List (Nat × List SV)} (hts : ∀ g l, (g, l) ∈ ts → g < G ∧ l.all SV.isLit = true) {l : List AbsC} (hl : ∀ c ∈ l, c.fit = true ∧ AbsOk P G ts E c) :
    BaseOk ⟨P, A, G⟩ E (absBase ts l) := by
  refine ⟨fun f args H n v H' n' h ρ w as r hg ha => ?_, fun _ _ _ _ _ h => by cases h⟩
  simp only [absBase] at h
  induction l with
  | nil => cases h
  | cons c l ih =>
    have rest := fun h => ih (fun c hc => hl c (List.mem_cons_of_mem _ hc)) h
    simp only [tryAbs] at h
    split at h
    case isFalse => exact rest h
    rename_i hf
    split at h
    case h_2 => exact rest h
    rename_i r' hr
    cases h
    subst hf
    obtain ⟨hfit, ok⟩ := hl c (List.mem_cons_self ..)
    simp only [AbsC.fit, Bool.and_eq_true, beq_iff_eq] at hfit
    obtain ⟨⟨⟨h1, h2⟩, h3, h4⟩, h5, h6⟩ := hfit
    refine absRun_ok (A := A) hts h1 h2 h3 h4 h5 (fun k i j hi hj hrw => ?_) ok hr r hg ha
    have hz : (c.pre.zip c.post)[k]? = some (i, j) := by rw [List.getElem?_zip_eq_some]; exact ⟨hi, hj⟩
    have := List.all_eq_true.1 h6 _ (List.mem_of_getElem? hz)
    simpa [hrw] using this
end Go.Proofs.YtfiangiajhdhcaaDoor
