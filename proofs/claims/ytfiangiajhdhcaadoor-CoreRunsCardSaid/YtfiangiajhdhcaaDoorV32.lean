/- The reckoner: a rule for loops. No condition. -/
import Derived.Test.YtfiangiajhdhcaaDoorV31
import Derived.ControlIn
import Derived.LoopNIn
namespace Go.Proofs.YtfiangiajhdhcaaDoor
open Go.RowKit
set_option linter.unusedVariables false
set_option maxRecDepth 100000

/-! ### A loop that is told by what stands at its head -/
/-- From the valuation of one round to that of the next: values. -/
noncomputable def Cv (E E' : Val) (v' v : SV) : Prop := ∀ ρ u, Den E ρ v' u → Den E' ρ v u
/-- .. and blocks. -/
structure Cb (E E' : Val) (b' b : SBlk) : Prop where
  rel : ∀ ρ w p, BRel E ρ w p b' → BRel E' ρ w p b
  foot : ∀ (p : Place) k, foot E' b p k ↔ foot E b' p k
  rw : b.rw = b'.rw
noncomputable def CvL (E E' : Val) (Tn T : List (Nat × SV)) : Prop := ∀ t v, T.lookup t = some v → ∃ v', Tn.lookup t = some v' ∧ Cv E E' v' v
noncomputable def CbL (E E' : Val) (Hn H : List (Nat × SBlk)) : Prop := ∀ s b, (mkH H).get s = some b → ∃ b', (mkH Hn).get s = some b' ∧ Cb E E' b' b
structure LoopC where
  /-- what stands at the head: temporaries, blocks, the next free name -/
  T : List (Nat × SV)
  H : List (Nat × SBlk)
  n : Nat
  /-- what is known there -/
  A : Asm
  /-- which round it is, and which one is the last -/
  i : IE
  lim : IE
  /-- how it comes: temporaries, blocks -/
  T0 : List (Nat × SV)
  H0 : List (Nat × SBlk)
  /-- behind a round, in the letters of that round -/
  Tn : List (Nat × SV)
  Hn : List (Nat × SBlk)
  /-- at the end, in the letters of the last round -/
  x : SX
  Tx : List (Nat × SV)
  Hx : List (Nat × SBlk)
  /-- at the end, in the letters outside -/
  To : List (Nat × SV)
  Ho : List (Nat × SBlk)
  /-- the ways of a round -/
  tree : Tree
  fuel : Nat
/-- Temporaries of which only some are known. -/
noncomputable def mkT (N : Nat) (l : List (Nat × SV)) : TM := (List.range N).foldl (fun T t => T.set t ((l.lookup t).getD .any)) .nil
noncomputable def hasT (T : TM) (l : List (Nat × SV)) : Bool := l.all fun (t, v) => SV.beq (T.val t) v
noncomputable def blkIs (H : SH) (x : Nat × SBlk) : Bool := match H.get x.1 with | some b => SBlk.beq' x.2 b | none => false
theorem mkH_subs {H : SH} : ∀ {l : List (Nat × SBlk)}, l.all (blkIs H) = true → ∀ s b, (mkH l).get s = some b → H.get s = some b
  | [], _, s, b, h => by simp [mkH, Tr.get_nil] at h
  | (t, c) :: l, hl, s, b, h => by
    simp only [List.all_cons, Bool.and_eq_true] at hl
    simp only [mkH, Tr.get_set] at h
    split at h
    · rename_i e
      subst e
      cases h
      have := hl.1
      unfold blkIs at this
      split at this
      · rename_i b' hb
        have e : c = b' := SBlk.eq_of_beq' this
        subst e
        exact hb
      · cases this
    · exact mkH_subs hl.2 s b h
noncomputable def sxEq : SX → SX → Bool
  | .normal, .normal => true
  | .exit i, .exit j => i == j
  | .goto i, .goto j => i == j
  | .ret, .ret => true
  | _, _ => false
theorem sx_eq {a b : SX} (h : sxEq a b = true) : a = b := by
  cases a <;> cases b <;> simp [sxEq] at h <;> first | rfl | rw [h]
/-- A round's outcome is what is told. -/
noncomputable def LoopC.out (L : LoopC) (N : Nat) (A : Asm) : R (SX × CSt) → Bool
  | .ok (.normal, st) => (match cmpI A .lss L.i L.lim with | .ok true => true | _ => false) && (hasT st.T L.Tn && (L.Hn.all (blkIs st.H) && (st.ds.isEmpty && st.N == N)))
  | .ok (x, st) => (match cmpI A .eql L.i L.lim with | .ok true => true | _ => false) && (sxEq x L.x && (hasT st.T L.Tx && (L.Hx.all (blkIs st.H) && (st.ds.isEmpty && st.N == N))))
  | .no _ => false
noncomputable def LoopC.head (L : LoopC) (N : Nat) : CSt := ⟨mkT N L.T, N, mkH L.H, L.n, []⟩
noncomputable def LoopC.check (L : LoopC) (P : Program) (G : Nat) (B : Asm → Base) (N : Nat) (b : Code) : Bool :=
  L.tree.check (fun A => L.out N A ((rk ⟨P, A, G⟩ (B A) L.fuel).code none b (L.head N))) L.A
/-- All its names are below n. -/
noncomputable def SV.lowN (n : Nat) : SV → Bool
  | .ptr s _ => decide (s < n)
  | .slice s _ _ _ _ => decide (s < n)
  | .map s => decide (s < n)
  | .asl s _ _ foc _ => decide (s < n) && (foc.all fun x => decide (x.2 < n))
  | .belt s _ _ _ => decide (s < n)
  | .agg l => l.all SV.plain1
  | .bool _ | .int _ _ | .str _ | .nptr | .nslice | .nfunc | .niface | .atom _ | .txt _ | .nmap | .any | .elt _ _ | .side _ => true
  | _ => false
theorem lowN_ok {E : Val} {ρ ρ' : Rho} {n : Nat} (hr : ∀ s, s < n → ρ' s = ρ s) {v : SV} {u : Value} (h : v.lowN n = true) (hd : Den E ρ v u) : Den E ρ' v u := by
  cases v <;> try (simp [SV.lowN] at h; done)
  case ptr s o => obtain ⟨p, h1, h2⟩ := hd; exact ⟨p, (hr s (of_decide_eq_true h)).trans h1, h2⟩
  case slice s o l c z => obtain ⟨p, h1, h2⟩ := hd; exact ⟨p, (hr s (of_decide_eq_true h)).trans h1, h2⟩
  case map s => obtain ⟨p, h1, h2⟩ := hd; exact ⟨p, (hr s (of_decide_eq_true h)).trans h1, h2⟩
  case asl s len sz foc els =>
    simp only [SV.lowN, Bool.and_eq_true, decide_eq_true_eq] at h
    obtain ⟨g1, g2⟩ := h
    obtain ⟨q, h0, h1, h2, av, c, h3, h5, h6⟩ := hd
    refine ⟨q, (hr _ g1).trans h0, h1, h2, av, c, h3, fun x hx => ?_, h6⟩
    obtain ⟨p, a, k1, k2⟩ := h5 x hx
    exact ⟨p, a, (hr _ (of_decide_eq_true (List.all_eq_true.1 g2 x hx))).trans k1, k2⟩
  case belt s i l off => obtain ⟨q, b, o, h1, h2⟩ := hd; exact ⟨q, b, o, (hr s (of_decide_eq_true h)).trans h1, h2⟩
  case agg l => obtain ⟨a, ha, rfl⟩ := hd; exact ⟨a, plain1L_ok h ha, rfl⟩
  all_goals exact hd
theorem lowL_ok {E : Val} {ρ ρ' : Rho} {n : Nat} (hr : ∀ s, s < n → ρ' s = ρ s) : ∀ {l : List SV} {us : List Value}, l.all (SV.lowN n) = true → DenL E ρ l us → DenL E ρ' l us
  | [], us, _, h => h
  | v :: l, us, hp, ⟨u, t, h1, h2, h3⟩ => by
    simp only [List.all_cons, Bool.and_eq_true] at hp
    exact ⟨u, t, lowN_ok hr hp.1 h1, lowL_ok hr hp.2 h2, h3⟩
noncomputable def SBlk.lowN (n : Nat) : SBlk → Bool
  | .cells l _ => l.all (SV.lowN n)
  | .ro l => l.all (SV.lowN n)
  | .win _ l => l.all (SV.lowN n)
  | .abs _ _ => true
  | .bld _ _ v => v.lowN n
  | _ => false
theorem lowB_ok {E : Val} {ρ ρ' : Rho} {n : Nat} (hr : ∀ s, s < n → ρ' s = ρ s) {b : SBlk} {w : World} {p : Place} (h : b.lowN n = true) (hb : BRel E ρ w p b) : BRel E ρ' w p b := by
  cases b <;> try (simp [SBlk.lowN] at h; done)
  case cells l e => obtain ⟨c, el, us, h1, h2, h3⟩ := hb; exact ⟨c, el, us, h1, lowL_ok hr h h2, h3⟩
  case ro l => obtain ⟨h0, us, el, fz, h1, h2⟩ := hb; exact ⟨h0, us, el, fz, h1, lowL_ok hr h h2⟩
  case bld t a v => obtain ⟨h0, u, h1, h2, h3⟩ := hb; exact ⟨h0, u, lowN_ok hr h h1, h2, h3⟩
  case abs i wr => exact hb
  case win i l => obtain ⟨c, us, h1, h2, h3⟩ := hb; exact ⟨c, us, h1, lowL_ok hr h h2, h3⟩
noncomputable def lowH (n : Nat) (l : List (Nat × SBlk)) : Bool := l.all fun x => decide (x.1 < n) && x.2.lowN n
noncomputable def lowT (n : Nat) (l : List (Nat × SV)) : Bool := l.all fun x => x.2.lowN n
theorem mkH_mem : ∀ {l : List (Nat × SBlk)} {s : Nat} {b : SBlk}, (mkH l).get s = some b → (s, b) ∈ l
  | [], s, b, h => by simp [mkH, Tr.get_nil] at h
  | (t, c) :: l, s, b, h => by
    simp only [mkH, Tr.get_set] at h
    split at h
    · rename_i e; subst e; cases h; exact List.mem_cons_self ..
    · exact List.mem_cons_of_mem _ (mkH_mem h)
theorem lookup_mem {α : Type} : ∀ {l : List (Nat × α)} {t : Nat} {v : α}, l.lookup t = some v → (t, v) ∈ l
  | [], t, v, h => by simp at h
  | (a, b) :: l, t, v, h => by
    simp only [List.lookup] at h
    split at h
    · rename_i e; simp only [Option.some.injEq] at h; subst h; have := eq_of_beq e; subst this; exact List.mem_cons_self ..
    · exact List.mem_cons_of_mem _ (lookup_mem h)
noncomputable def LoopC.low (L : LoopC) (G : Nat) : Bool := ((lowH L.n L.H && lowH L.n L.H0) && (lowH L.n L.Hn && lowH L.n L.Hx)) && ((lowH L.n L.Ho && decide (G ≤ L.n)) && (lowT L.n L.T && lowT L.n L.To))
noncomputable def loopBase (P : Program) (G : Nat) (B : Asm → Base) (L : LoopC) : Base :=
  { code := fun ro c st => match ro, c with
      | none, .loop b => if ((hasT st.T L.T0 && L.H0.all (blkIs st.H)) && (st.ds.isEmpty && st.n == L.n)) && (L.low G && L.check P G B st.N b) then
          some (L.x, ⟨mkT st.N L.To, st.N, addH L.Ho (delH L.H0 st.H), L.n, []⟩) else none
      | _, _ => none }
theorem mkT_get {N : Nat} {l : List (Nat × SV)} (t : Nat) : (mkT N l).val t = if t < N then (l.lookup t).getD .any else .tup [] := by
  have key : ∀ (ts : List Nat) (T : TM), (ts.foldl (fun T t => T.set t ((l.lookup t).getD .any)) T).val t = if t ∈ ts then (l.lookup t).getD .any else T.val t := by
    intro ts
    induction ts with
    | nil => intro T; simp
    | cons s ts ih =>
      intro T
      rw [List.foldl_cons, ih]
      by_cases h : t ∈ ts
      · simp [h]
      · by_cases e : t = s
        · subst e; simp [h, TM.val_set]
        · simp [h, e, TM.val_set]
  unfold mkT
  rw [key]
  simp [TM.val, Tr.get_nil]
theorem hasT_ok {T : TM} {l : List (Nat × SV)} (h : hasT T l = true) {t : Nat} {v : SV} (hm : l.lookup t = some v) : T.val t = v := by
  have hmem : (t, v) ∈ l := by
    clear h
    induction l with
    | nil => simp at hm
    | cons x l ih =>
      obtain ⟨a, b⟩ := x
      simp only [List.lookup] at hm
      split at hm
      · rename_i e; simp only [Option.some.injEq] at hm; subst hm; have := eq_of_beq e; subst this; exact List.mem_cons_self ..
      · exact List.mem_cons_of_mem _ (ih hm)
  have := List.all_eq_true.1 h _ hmem
  exact SV.eq_of_beq this
/-- Temporaries, told anew. -/
theorem TRel.told {E E' : Val} {ρ : Rho} {T : TM} {N : Nat} {tmps : Array Value} (h : TRel E ρ T N tmps) {Tn Tt : List (Nat × SV)} (hn : hasT T Tn = true) (hc : CvL E E' Tn Tt) {ρ' : Rho} (hd : ∀ t v, Tt.lookup t = some v → ∀ u, Den E' ρ v u → Den E' ρ' v u) : TRel E' ρ' (mkT N Tt) N tmps := by
  refine ⟨h.size, fun t => ?_⟩
  rw [mkT_get]
  split
  · cases e : Tt.lookup t with
    | none => trivial
    | some v =>
      obtain ⟨v', h1, h2⟩ := hc t v e
      have := h.get t
      rw [hasT_ok hn h1] at this
      exact hd t v e _ (h2 _ _ this)
  · rename_i hlt
    have : tmps.getD t undef = undef := by
      rw [Array.getD_eq_getD_getElem?, Array.getElem?_eq_none (by rw [h.size]; omega)]; rfl
    rw [this]
    exact ⟨[], rfl, rfl⟩
/-- The valuations of a loop's rounds. -/
structure LoopFam (P : Program) (G : Nat) (B : Asm → Base) (L : LoopC) (E : Val) (F : Nat → Val) (K : Nat) : Prop where
  A : ∀ k, k ≤ K → L.A.Holds (F k).I
  B : ∀ k, k ≤ K → ∀ A : Asm, A.Holds (F k).I → BaseOk ⟨P, A, G⟩ (F k) (B A)
  i : ∀ k, k ≤ K → L.i.den (F k).I = k
  lim : ∀ k, k ≤ K → L.lim.den (F k).I = K
  t0 : CvL E (F 0) L.T0 L.T
  h0 : CbL E (F 0) L.H0 L.H
  tn : ∀ k, k < K → CvL (F k) (F (k + 1)) L.Tn L.T
  hn : ∀ k, k < K → CbL (F k) (F (k + 1)) L.Hn L.H
  tx : CvL (F K) E L.Tx L.To
  hx : CbL (F K) E L.Hx L.Ho
  kept : ∀ k w, (F k).K w ↔ E.K w
  free : ∀ k x, (F k).Kf x ↔ E.Kf x
/-- Blocks, told anew. -/
theorem HRel.told {E E' : Val} {ρ ρ' : Rho} {H : SH} {w : World} (r : HRel E ρ' H w) {Hn Ht : List (Nat × SBlk)} (hn : Hn.all (blkIs H) = true) (hc : CbL E E' Hn Ht) {n : Nat} (hl : lowH n Ht = true) (hr : ∀ s, s < n → ρ' s = ρ s) (hK : E'.K w) (hf : ∀ x, E'.Kf x → E.Kf x) :
    HRel E' ρ (mkH Ht) w ∧ (∀ x, fp E' ρ (mkH Ht) x → fp E ρ' H x) ∧ (∀ x, fpw E' ρ (mkH Ht) x → fpw E ρ' H x) := by
  have key : ∀ s b, (mkH Ht).get s = some b → s < n ∧ b.lowN n = true ∧ ∃ b', H.get s = some b' ∧ Cb E E' b' b := fun s b h => by
    have hm := List.all_eq_true.1 hl _ (mkH_mem h)
    simp only [Bool.and_eq_true, decide_eq_true_eq] at hm
    obtain ⟨b', h1, h2⟩ := hc s b h
    exact ⟨hm.1, hm.2, b', mkH_subs hn s b' h1, h2⟩
  have w1 : ∀ x, fpw E' ρ (mkH Ht) x → fpw E ρ' H x := by
    rintro x ⟨s, b, p, h1, h2, h3, h4⟩
    obtain ⟨k1, k2, b', k3, k4⟩ := key s b h1
    exact ⟨s, b', p, k3, k4.rw ▸ h2, (hr s k1).trans h3, (k4.foot p x).1 h4⟩
  refine ⟨⟨fun s b h => ?_, fun s t bs bt ps pt x h1 h2 h3 h4 h5 h6 => ?_, hK, fun x hx hf' => r.free x (hf x hx) (w1 x hf')⟩, ?_, w1⟩
  · obtain ⟨k1, k2, b', k3, k4⟩ := key s b h
    obtain ⟨p, hp, hb⟩ := r.blk s b' k3
    exact ⟨p, (hr s k1).symm.trans hp, lowB_ok (fun t ht => (hr t ht).symm) k2 (k4.rel _ _ _ hb)⟩
  · obtain ⟨k1, k2, b', k3, k4⟩ := key s bs h1
    obtain ⟨g1, g2, c', g3, g4⟩ := key t bt h2
    exact r.inj s t b' c' ps pt x k3 g3 ((hr s k1).trans h3) ((hr t g1).trans h4) ((k4.foot ps x).1 h5) ((g4.foot pt x).1 h6)
  · rintro x ⟨s, b, p, h1, h3, h4⟩
    obtain ⟨k1, k2, b', k3, k4⟩ := key s b h1
    exact ⟨s, b', p, k3, (hr s k1).trans h3, (k4.foot p x).1 h4⟩
theorem dsR_nil {ρ : Rho} {l : List Deferred} (h : DsR ρ [] l) : l = [] := by cases h; rfl
/-- How far a loop has come. -/
structure LInv (L : LoopC) (P : Program) (G : Nat) (E : Val) (F : Nat → Val) (N : Nat) (ρ : Rho) (w0 : World) (k : Nat) (a : Act) (w : World) : Prop where
  cr : CRel ⟨P, L.A, G⟩ (F k) ρ (L.head N) a w
  fr : FrS (fpw E ρ (mkH L.H0)) w0 w
  cl : ∀ x, fp (F k) ρ (mkH L.H) x → fp E ρ (mkH L.H0) x ∨ w0.heap.size ≤ x
  clw : ∀ x, fpw (F k) ρ (mkH L.H) x → fpw E ρ (mkH L.H0) x ∨ w0.heap.size ≤ x
theorem loopBase_ok {P : Program} {G : Nat} {B : Asm → Base} {L : LoopC} {E : Val} (fam : ∃ F K, LoopFam P G B L E F K) (A : Asm) : BaseOk ⟨P, A, G⟩ E (loopBase P G B L) := by
  refine ⟨fun _ _ _ _ _ _ _ h => (by cases h), fun ro c st x st' h ρ w a r hc hro m => ?_⟩
  obtain ⟨F, K, fam⟩ := fam
  simp only [loopBase] at h
  split at h
  case h_2 => cases h
  rename_i b
  split at h
  case isFalse => cases h
  rename_i hq
  cases h
  obtain rfl : r = none := hro
  simp only [Bool.and_eq_true, List.isEmpty_iff, beq_iff_eq] at hq
  obtain ⟨⟨⟨qT, qH⟩, qd, qn⟩, qlow, qcheck⟩ := hq
  have hlow := qlow
  simp only [LoopC.low, Bool.and_eq_true, decide_eq_true_eq] at hlow
  obtain ⟨⟨⟨l1, l2⟩, l3, l4⟩, ⟨l5, l6⟩, l7, l8⟩ := hlow
  obtain ⟨stT, stN, stH, stn, stds⟩ := st
  simp only at qT qH qd qn qcheck ⊢
  subst qd qn
  have lowV : ∀ (l : List (Nat × SV)), lowT L.n l = true → ∀ (E : Val) (ρ ρ' : Rho), (∀ s, s < L.n → ρ' s = ρ s) → ∀ t v, l.lookup t = some v → ∀ u, Den E ρ v u → Den E ρ' v u := fun l hl E ρ ρ' hr t v hm u hd =>
    lowN_ok hr (List.all_eq_true.1 hl _ (lookup_mem hm)) hd
  have hsr : StR E ρ stH L.n w := hc.sr
  have hd0 : a.defers = [] := dsR_nil hc.ds
  -- at the head
  obtain ⟨s1, s2, s3⟩ := HRel.told (ρ := ρ) hsr.rel qH (fam.h0) l1 (fun _ _ => rfl) ((fam.kept 0 w).2 hsr.rel.kept) (fun x => (fam.free 0 x).1)
  have S0 : StR E ρ (mkH L.H0) L.n w := ⟨⟨fun s b hb => hsr.rel.blk s b (mkH_subs qH s b hb), fun s t bs bt ps pt k h1 h2 => hsr.rel.inj s t bs bt ps pt k (mkH_subs qH s bs h1) (mkH_subs qH t bt h2), hsr.rel.kept, fun k hk ⟨s, b, p, h1, h2, h3, h4⟩ => hsr.rel.free k hk ⟨s, b, p, mkH_subs qH s b h1, h2, h3, h4⟩⟩, hsr.fresh⟩
  -- what the head holds lies in what came
  have f0 : (∀ x, fp (F 0) ρ (mkH L.H) x → fp E ρ (mkH L.H0) x) ∧ (∀ x, fpw (F 0) ρ (mkH L.H) x → fpw E ρ (mkH L.H0) x) := by
    refine ⟨?_, ?_⟩
    · rintro x ⟨s, b, p, h1, h3, h4⟩
      obtain ⟨b', k1, k2⟩ := fam.h0 s b h1
      exact ⟨s, b', p, k1, h3, (k2.foot p x).1 h4⟩
    · rintro x ⟨s, b, p, h1, h2, h3, h4⟩
      obtain ⟨b', k1, k2⟩ := fam.h0 s b h1
      exact ⟨s, b', p, k1, k2.rw ▸ h2, h3, (k2.foot p x).1 h4⟩
  have start : LInv L P G E F stN ρ w 0 a w :=
    ⟨⟨⟨s1, hsr.fresh⟩, hc.glo, hc.tm.told qT fam.t0 (lowV _ l7 _ _ _ (fun _ _ => rfl)), by rw [hd0]; exact .nil⟩, .refl _ _, fun x hx => .inl (f0.1 x hx), fun x hx => .inl (f0.2 x hx)⟩
  -- one round
  have round : ∀ k a' w', k ≤ K → LInv L P G E F stN ρ w k a' w' → b.wpIn (Fo none) m P (fun e a1 w1 => (e = .normal ∧ k < K ∧ LInv L P G E F stN ρ w (k + 1) a1 w1) ∨
      (e ≠ .normal ∧ CodePost ⟨P, A, G⟩ E ρ ⟨stT, stN, stH, L.n, []⟩ w L.x ⟨mkT stN L.To, stN, addH L.Ho (delH L.H0 stH), L.n, []⟩ e a1 w1)) a' w' := by
    intro k a' w' hk I
    obtain ⟨A', hA', ho⟩ := Tree.ok (fam.A k hk) qcheck
    generalize hrun : (rk ⟨P, A', G⟩ (B A') L.fuel).code none b (L.head stN) = R at ho
    cases R with
    | no why => simp [LoopC.out] at ho
    | ok r =>
    obtain ⟨x, st1⟩ := r
    have hX := (rk_ok (C := ⟨P, A', G⟩) hA' (fam.B k hk A' hA') L.fuel).1
    have hw := hX none b (L.head stN) x st1 hrun ρ w' a' none ⟨I.cr.sr, I.cr.glo, I.cr.tm, I.cr.ds⟩ rfl m
    refine wpIn_mono hw ?_
    rintro e a1 w1 ⟨ρ', rfl, c1, t1, hN⟩
    have hext : ∀ s, s < L.n → ρ' s = ρ s := t1.ext
    have hext' : ∀ s, s < L.n → ρ s = ρ' s := fun s hs => (hext s hs).symm
    have frs : FrS (fpw E ρ (mkH L.H0)) w w1 := by
      refine I.fr.trans t1.fr (fun _ _ h => h) (fun x hx hS => ?_)
      rcases I.clw x hS with z | z
      · exact z
      · omega
    have sub : ∀ (l : List (Nat × SV)), lowT L.n l = true → ∀ (E : Val), ∀ t v, l.lookup t = some v → ∀ u, Den E ρ' v u → Den E ρ v u := fun l hl E => lowV l hl E ρ' ρ hext'
    cases x with
    | normal =>
      simp only [LoopC.out, Bool.and_eq_true, List.isEmpty_iff, beq_iff_eq] at ho
      obtain ⟨o1, o2, o3, o4, o5⟩ := ho
      have hlt : k < K := by
        split at o1
        · rename_i hcm
          have := cmpI_ok hA' hcm
          simp only [cmpD, decide_eq_true_eq] at this
          rw [fam.i k hk, fam.lim k hk] at this
          omega
        · cases o1
      obtain ⟨g1, g2, g3⟩ := HRel.told (ρ := ρ) c1.sr.rel o3 (fam.hn k hlt) l1 hext ((fam.kept (k + 1) w1).2 ((fam.kept k w1).1 c1.sr.rel.kept)) (fun x hx => (fam.free k x).2 ((fam.free (k + 1) x).1 hx))
      refine .inl ⟨rfl, hlt, ⟨⟨g1, hsr.fresh⟩, hc.glo, ?_, ?_⟩, frs, fun x hx => ?_, fun x hx => ?_⟩
      · have := c1.tm.told o2 (fam.tn k hlt) (sub _ l7 _)
        rw [o5] at this; exact this
      · have : a1.defers = [] := dsR_nil (o4 ▸ c1.ds)
        rw [this]; exact .nil
      · rcases t1.cl x (g2 x hx) with z | z
        · exact I.cl x z
        · exact .inr (Nat.le_trans I.fr.size z)
      · rcases t1.clw x (g3 x hx) with z | z
        · exact I.clw x z
        · exact .inr (Nat.le_trans I.fr.size z)
    | _ =>
      simp only [LoopC.out, Bool.and_eq_true, List.isEmpty_iff, beq_iff_eq] at ho
      obtain ⟨o0, ox, o2, o3, o4, o5⟩ := ho
      have hkK : k = K := by
        split at o0
        · rename_i hcm
          have := cmpI_ok hA' hcm
          simp only [cmpD, beq_iff_eq] at this
          rw [fam.i k hk, fam.lim k hk] at this
          omega
        · cases o0
      subst hkK
      have hx := sx_eq ox
      obtain ⟨g1, g2, g3⟩ := HRel.told (ρ := ρ) c1.sr.rel o3 fam.hx l5 hext ((fam.kept k w1).1 c1.sr.rel.kept) (fun x hx => (fam.free k x).2 hx)
      have St : Stp E ρ (mkH L.H0) L.n w ρ (mkH L.Ho) L.n w1 := ⟨fun _ _ => rfl, Nat.le_refl _, hsr.fresh, g1, frs, fun x hx => by
          rcases t1.cl x (g2 x hx) with z | z
          · exact I.cl x z
          · exact .inr (Nat.le_trans I.fr.size z), fun x hx => by
          rcases t1.clw x (g3 x hx) with z | z
          · exact I.clw x z
          · exact .inr (Nat.le_trans I.fr.size z)⟩
      have Sf : Stp E ρ stH L.n w ρ (addH L.Ho (delH L.H0 stH)) L.n w1 := St.frame hsr (mkH_subs qH) (fun s b hb => by
        rcases addH_get hb with h | h
        · exact .inl h
        · exact .inr (delH_get h))
      refine .inr ⟨by simp [SX.den], ρ, by rw [hx], ⟨Sf.to, hc.glo, ?_, ?_⟩, Sf, rfl⟩
      · have := c1.tm.told o2 fam.tx (sub _ l8 _)
        rw [o5] at this; exact this
      · have : a1.defers = [] := dsR_nil (o4 ▸ c1.ds)
        rw [this]; exact .nil
  have all : ∀ d k a' w', k + d = K → LInv L P G E F stN ρ w k a' w' → Code.roundsIn (Fo none) m P b (CodePost ⟨P, A, G⟩ E ρ ⟨stT, stN, stH, L.n, []⟩ w L.x ⟨mkT stN L.To, stN, addH L.Ho (delH L.H0 stH), L.n, []⟩) (d + 1) a' w' := by
    intro d
    induction d with
    | zero =>
      intro k a' w' hk I
      rw [roundsIn_succ]
      refine wpIn_mono (round k a' w' (by omega) I) ?_
      rintro e a1 w1 (⟨rfl, h1, _⟩ | ⟨h1, h2⟩)
      · omega
      · cases e with
        | normal => exact absurd rfl h1
        | _ => exact h2
    | succ d ih =>
      intro k a' w' hk I
      rw [roundsIn_succ]
      refine wpIn_mono (round k a' w' (by omega) I) ?_
      rintro e a1 w1 (⟨rfl, h1, h2⟩ | ⟨h1, h2⟩)
      · exact ih (k + 1) a1 w1 (by omega) h2
      · cases e with
        | normal => exact absurd rfl h1
        | _ => exact h2
  exact wpIn_loop_rounds (K + 1) (all K 0 a w (by omega) start)
#print axioms loopBase_ok
end Go.Proofs.YtfiangiajhdhcaaDoor
