/- The reckoner: a symbolic evaluator of a program, proved sound; one of its texts. No condition. -/
import Derived.Test.YtfiangiajhdhcaaDoorV29
namespace Go.Proofs.YtfiangiajhdhcaaDoor
open Go.RowKit
set_option linter.unusedVariables false
set_option maxRecDepth 100000

/-! ### Calls whose answers are known, one by one -/
structure LetC where
  f : FuncId
  args : List SV
  v : SV
noncomputable def letFind (f : FuncId) (args : List SV) : List LetC → Option SV
  | [] => none
  | c :: l => if c.f = f then (if SV.beqL c.args args then some c.v else letFind f args l) else letFind f args l
noncomputable def letBase (ts : List (Nat × List SV)) (l : List LetC) : Base :=
  { call := fun f args H n => match letFind f args l with
      | some v => if tabsHere ts H then some (v, H, n) else none
      | none => none }
noncomputable def LetOk (P : Program) (G : Nat) (ts : List (Nat × List SV)) (E : Val) (c : LetC) : Prop :=
  ∀ (us : List Value) (w : World), TabsIn E G ts w → DenL E (rho0 G) c.args us → Calls P c.f us.toArray w fun e w' => ∃ u, e = .returned u ∧ Below w.heap.size w w' ∧ ∀ ρ, Den E ρ c.v u
theorem plain1_ok {E : Val} {ρ ρ' : Rho} {v : SV} {u : Value} (hp : v.plain1 = true) (h : Den E ρ v u) : Den E ρ' v u := by
  cases v <;> try (simp [SV.plain1] at hp; done)
  case bool => exact h
  case int k e => exact h
theorem plain1L_ok {E : Val} {ρ ρ' : Rho} : ∀ {l : List SV} {us : List Value}, l.all SV.plain1 = true → DenL E ρ l us → DenL E ρ' l us
  | [], us, _, h => h
  | v :: l, us, hp, ⟨u, t, h1, h2, h3⟩ => by
    simp only [List.all_cons, Bool.and_eq_true] at hp
    exact ⟨u, t, plain1_ok hp.1 h1, plain1L_ok hp.2 h2, h3⟩
theorem plain_ok {E : Val} {ρ ρ' : Rho} {v : SV} {u : Value} (hp : v.plain = true) (h : Den E ρ v u) : Den E ρ' v u := by
  cases v
  case agg l =>
    obtain ⟨a, ha, rfl⟩ := h
    exact ⟨a, plain1L_ok hp ha, rfl⟩
  all_goals exact plain1_ok hp h
theorem plainL_ok {E : Val} {ρ ρ' : Rho} : ∀ {l : List SV} {us : List Value}, l.all SV.plain = true → DenL E ρ l us → DenL E ρ' l us
  | [], us, _, h => h
  | v :: l, us, hp, ⟨u, t, h1, h2, h3⟩ => by
    simp only [List.all_cons, Bool.and_eq_true] at hp
    exact ⟨u, t, plain_ok hp.1 h1, plainL_ok hp.2 h2, h3⟩
theorem letFind_ok {f : FuncId} {args : List SV} {v : SV} : ∀ {l : List LetC}, letFind f args l = some v → ∃ c ∈ l, c.f = f ∧ c.args = args ∧ c.v = v
  | [], h => by cases h
  | c :: l, h => by
    simp only [letFind] at h
    split at h
    · rename_i hf
      split at h
      · rename_i ha
        injection h with h
        exact ⟨c, List.mem_cons_self .., hf, SV.eq_of_beqL ha, h⟩
      · obtain ⟨c', h1, h2⟩ := letFind_ok h
        exact ⟨c', List.mem_cons_of_mem _ h1, h2⟩
    · obtain ⟨c', h1, h2⟩ := letFind_ok h
      exact ⟨c', List.mem_cons_of_mem _ h1, h2⟩
theorem letBase_ok {P : Program} {A : Asm} {G : Nat} {E : Val} {ts : List (Nat × List SV)} (hts : ∀ g l, (g, l) ∈ ts → g < G ∧ l.all SV.isLit = true) {l : List LetC} (hl : ∀ c ∈ l, c.args.all SV.plain = true ∧ LetOk P G ts E c) :
    BaseOk ⟨P, A, G⟩ E (letBase ts l) := by
  refine ⟨fun f args H n v H' n' h ρ w as r hg ha => ?_, fun _ _ _ _ _ h => by cases h⟩
  simp only [letBase] at h
  split at h
  case h_2 => cases h
  rename_i v' hv
  split at h
  case isFalse => cases h
  rename_i ht
  cases h
  obtain ⟨c, hc, rfl, rfl, rfl⟩ := letFind_ok hv
  obtain ⟨hp, ok⟩ := hl c hc
  have hT : TabsIn E G ts w := tabsHere_ok (C := ⟨P, A, G⟩) (fun g l hm => ⟨(hts g l hm).1, fun ρ us hd => DenL.lits (hts g l hm).2 hd⟩) r.rel hg ht
  refine (callsIn_wide (n := 0)).1 (CallsIn.mono ((callsIn_wide (n := 0)).2 (ok as w hT (plainL_ok hp ha))) ?_)
  rintro e w' ⟨u, rfl, hb, hd⟩
  exact ⟨u, ρ, rfl, Stp.of_below r hb, hd ρ⟩
/-- What a tree says, at other letters. -/
theorem letOk_inst {P : Program} {G : Nat} {ts : List (Nat × List SV)} {c : TreeC} (hts : ∀ g l, (g, l) ∈ ts → g < G ∧ l.all SV.isLit = true) (ok : TreeOk P G ts c.f c.pat c.n c.t) (hp : c.pat.all SV.plain = true) (s : Nat → IE) {E : Val}
    (hR : ∀ i, -9223372036854775808 ≤ (s i).den E.I ∧ (s i).den E.I ≤ 9223372036854775807) {v : SV} (hv : c.t.at (fun i => (s i).den E.I) = v) {args : List SV} (ha : c.pat.map (SV.inst s) = args) : LetOk P G ts E ⟨c.f, args, v⟩ := by
  intro us w hT hd
  subst ha
  have ha' : DenL (subVal s E) (rho0 G) c.pat us := instL_ok hp hd
  have hT' : TabsIn (subVal s E) G ts w := ⟨hT.1, fun g l hm => by
    obtain ⟨k1, us, el, fz, k2, k3⟩ := hT.2 g l hm
    exact ⟨k1, us, el, fz, k2, DenL.lits (hts g l hm).2 k3⟩⟩
  refine (callsIn_wide (n := 0)).1 (CallsIn.mono ((callsIn_wide (n := 0)).2 (ok (subVal s E) us w (rangeAsm_all hR) hT' ha')) ?_)
  rintro e w' ⟨u, rfl, hb, hd⟩
  refine ⟨u, rfl, hb, fun ρ => ?_⟩
  have := hd E ρ
  rw [show (subVal s E).I = fun i => (s i).den E.I from rfl, hv] at this
  exact this
/-! ### Which answers trees give together -/
noncomputable def ATree.each (s : Nat → IE) (k : Asm → SV → Bool) : ATree → Asm → Bool
  | .leaf v, A => k A v
  | .node op a b t f, A => match cmpI A op (a.sub s) (b.sub s) with
    | .ok r => bif r then t.each s k A else f.each s k A
    | .no _ => t.each s k (A.add op (a.sub s) (b.sub s) true) && f.each s k (A.add op (a.sub s) (b.sub s) false)
theorem ATree.each_ok {I : Nat → Int} (s : Nat → IE) {k : Asm → SV → Bool} : ∀ {t : ATree} {A : Asm}, A.Holds I → t.each s k A = true → ∃ A' : Asm, A'.Holds I ∧ k A' (t.at fun i => (s i).den I) = true
  | .leaf v, A, hA, h => ⟨A, hA, h⟩
  | .node op a b t f, A, hA, h => by
    simp only [ATree.each] at h
    simp only [ATree.at]
    split at h
    · rename_i r hc
      have := cmpI_ok hA hc
      rw [IE.sub_ok, IE.sub_ok] at this
      rw [this]
      cases r
      · exact ATree.each_ok s hA h
      · exact ATree.each_ok s hA h
    · simp only [Bool.and_eq_true] at h
      cases e : cmpD op (a.den fun i => (s i).den I) (b.den fun i => (s i).den I)
      · exact ATree.each_ok s (hA.add (by rw [IE.sub_ok, IE.sub_ok]; exact e)) h.2
      · exact ATree.each_ok s (hA.add (by rw [IE.sub_ok, IE.sub_ok]; exact e)) h.1
noncomputable def allJ (k : List SV → Bool) : List (ATree × (Nat → IE)) → List SV → Asm → Bool
  | [], acc, _ => k acc
  | (t, s) :: l, acc, A => t.each s (fun A v => allJ k l (v :: acc) A) A
theorem allJ_ok {I : Nat → Int} {k : List SV → Bool} : ∀ {l : List (ATree × (Nat → IE))} {acc : List SV} {A : Asm}, A.Holds I → allJ k l acc A = true → k ((l.map fun x => x.1.at fun i => (x.2 i).den I).reverse ++ acc) = true
  | [], acc, A, hA, h => by simpa [allJ] using h
  | (t, s) :: l, acc, A, hA, h => by
    simp only [allJ] at h
    obtain ⟨A', hA', h⟩ := ATree.each_ok s hA h
    have := allJ_ok hA' h
    simpa using this
noncomputable def inSet (S : List (List SV)) (vs : List SV) : Bool := S.any fun l => SV.beqL l vs
/-- The trees' answers are together one of the listed ones (the last tree's first). -/
theorem joint {I : Nat → Int} {S : List (List SV)} {l : List (ATree × (Nat → IE))} {A : Asm} (hA : A.Holds I) (h : allJ (inSet S) l [] A = true) : (l.map fun x => x.1.at fun i => (x.2 i).den I).reverse ∈ S := by
  have := allJ_ok hA h
  rw [List.append_nil] at this
  simp only [inSet, List.any_eq_true] at this
  obtain ⟨x, hx, hb⟩ := this
  rw [← SV.eq_of_beqL hb]
  exact hx
/-- A law whose calls are answered so. -/
theorem law_let {E : Val} {P : Program} {G : Nat} {B : Asm → Base} {ts : List (Nat × List SV)} (hts : ∀ g l, (g, l) ∈ ts → g < G ∧ l.all SV.isLit = true) {l : List LetC} {k : Nat} {f : FuncId} {args : List SV} {us : List Value} {A : Asm} {w : World}
    (h : isTrueR ((rk ⟨P, A, G⟩ ((letBase ts l).or (B A)) k).call f args (tabHeap ts) G) = true) (hA : A.Holds E.I) (hB : BaseOk ⟨P, A, G⟩ E (B A)) (hl : ∀ c ∈ l, c.args.all SV.plain = true ∧ LetOk P G ts E c) (hT : TabsIn E G ts w) (ha : DenL E (rho0 G) args us) :
    Calls P f us.toArray w fun e w' => e = .returned (.bool true) ∧ Below w.heap.size w w' := by
  obtain ⟨H', n', hr⟩ := isTrue_ok h
  have := call_ok (C := ⟨P, A, G⟩) hr hA (BaseOk.or (letBase_ok hts hl) hB) hT ha
  refine (callsIn_wide (n := 0)).1 (CallsIn.mono ((callsIn_wide (n := 0)).2 this) ?_)
  rintro e w' ⟨u, ρ', rfl, hb, hd⟩
  cases hd
  exact ⟨rfl, hb⟩
end Go.Proofs.YtfiangiajhdhcaaDoor
