/- The reckoner: a symbolic evaluator of a program, proved sound; one of its texts. No condition. -/
import Derived.Test.YtfiangiajhdhcaaDoorV28
namespace Go.Proofs.YtfiangiajhdhcaaDoor
open Go.RowKit
set_option linter.unusedVariables false
set_option maxRecDepth 100000

/-! ### Calls that are reckoned once for all their arguments: a tree of answers -/
inductive ATree where
  | leaf (v : SV)
  | node (op : BinOp) (a b : IE) (t f : ATree)
noncomputable def SV.lits : SV → Bool
  | .tup l => l.all SV.isLit
  | v => v.isLit
theorem SV.lits_ok {E E' : Val} {ρ ρ' : Rho} {v : SV} {u : Value} (h : v.lits = true) (hd : Den E ρ v u) : Den E' ρ' v u := by
  have one : ∀ {x : SV}, x.isLit = true → Den E ρ x u → Den E' ρ' x u := fun {x} hx hd => by
    have : DenL E' ρ' [x] [u] := DenL.lits (by simpa using hx) (⟨u, [], hd, rfl, rfl⟩ : DenL E ρ [x] [u])
    obtain ⟨u', t, h1, h2, h3⟩ := this
    cases h3
    exact h1
  cases v
  case tup l =>
    obtain ⟨a, ha, rfl⟩ := hd
    exact ⟨a, DenL.lits h ha, rfl⟩
  all_goals exact one h hd
/-- Is this the answer? (a word of its own: the kernel compares its arguments ahead of its meaning) -/
noncomputable def leafOk (v : SV) (r : R (SV × SH × Nat)) : Bool := v.lits && (match r with | .ok (x, _, _) => SV.beq x v | .no _ => false)
noncomputable def ATree.check (run : Asm → R (SV × SH × Nat)) : ATree → Asm → Bool
  | .leaf v, A => leafOk v (run A)
  | .node op a b t f, A => t.check run (A.add op a b true) && f.check run (A.add op a b false)
noncomputable def ATree.at (I : Nat → Int) : ATree → SV
  | .leaf v => v
  | .node op a b t f => match cmpD op (a.den I) (b.den I) with | true => t.at I | false => f.at I
theorem ATree.ok {run : Asm → R (SV × SH × Nat)} {I : Nat → Int} : ∀ {t : ATree} {A : Asm}, A.Holds I → t.check run A = true → ∃ A' : Asm, A'.Holds I ∧ (t.at I).lits = true ∧ ∃ H' n', run A' = .ok (t.at I, H', n')
  | .leaf v, A, hA, h => by
    simp only [ATree.check, leafOk, Bool.and_eq_true] at h
    obtain ⟨h1, h2⟩ := h
    refine ⟨A, hA, h1, ?_⟩
    split at h2
    · rename_i x H' n' hr
      rw [SV.eq_of_beq h2] at hr
      exact ⟨_, _, hr⟩
    · cases h2
  | .node op a b t f, A, hA, h => by
    simp only [ATree.check, Bool.and_eq_true] at h
    simp only [ATree.at]
    cases e : cmpD op (a.den I) (b.den I)
    · exact ATree.ok (hA.add e) h.2
    · exact ATree.ok (hA.add e) h.1
noncomputable def IE.sub (s : Nat → IE) : IE → IE
  | .lit n => .lit n
  | .at i => s i
  | .bin op k a b => .bin op k (a.sub s) (b.sub s)
  | .conv k a => .conv k (a.sub s)
theorem IE.sub_ok (s : Nat → IE) (I : Nat → Int) : ∀ e : IE, (e.sub s).den I = e.den fun i => (s i).den I
  | .lit n => rfl
  | .at i => rfl
  | .bin op k a b => by simp only [IE.sub, IE.den, IE.sub_ok s I a, IE.sub_ok s I b]
  | .conv k a => by simp only [IE.sub, IE.den, IE.sub_ok s I a]
/-- The answer, where all that the tree asks is decided. -/
noncomputable def ATree.walk (A : Asm) (s : Nat → IE) : ATree → Option SV
  | .leaf v => some v
  | .node op a b t f => match cmpI A op (a.sub s) (b.sub s) with
    | .ok true => t.walk A s
    | .ok false => f.walk A s
    | .no _ => none
theorem ATree.walk_ok {A : Asm} {I : Nat → Int} (hA : A.Holds I) (s : Nat → IE) {v : SV} : ∀ {t : ATree}, t.walk A s = some v → t.at (fun i => (s i).den I) = v
  | .leaf x, h => by simpa [ATree.walk, ATree.at] using h
  | .node op a b t f, h => by
    simp only [ATree.walk] at h
    split at h
    · rename_i hc
      have := cmpI_ok hA hc
      rw [IE.sub_ok, IE.sub_ok] at this
      simp only [ATree.at, this]
      exact ATree.walk_ok hA s h
    · rename_i hc
      have := cmpI_ok hA hc
      rw [IE.sub_ok, IE.sub_ok] at this
      simp only [ATree.at, this]
      exact ATree.walk_ok hA s h
    · cases h
noncomputable def SV.ints1 : SV → List IE
  | .int _ e => [e]
  | _ => []
noncomputable def SV.intsOf : SV → List IE
  | .agg l => l.flatMap SV.ints1
  | v => v.ints1
noncomputable def SV.inst1 (s : Nat → IE) : SV → SV
  | .int k e => .int k (e.sub s)
  | v => v
noncomputable def SV.inst (s : Nat → IE) : SV → SV
  | .agg l => .agg (l.map (SV.inst1 s))
  | v => v.inst1 s
noncomputable def SV.plain1 : SV → Bool
  | .int _ _ => true
  | .bool _ => true
  | _ => false
noncomputable def SV.plain : SV → Bool
  | .agg l => l.all SV.plain1
  | v => v.plain1
noncomputable def subVal (s : Nat → IE) (E : Val) : Val := { E with I := fun i => (s i).den E.I }
theorem inst1_ok {E : Val} {ρ ρ' : Rho} {s : Nat → IE} {v : SV} {u : Value} (hp : v.plain1 = true) (h : Den E ρ (v.inst1 s) u) : Den (subVal s E) ρ' v u := by
  cases v <;> try (simp [SV.plain1] at hp; done)
  case bool => exact h
  case int k e =>
    simp only [SV.inst1, Den] at h
    rw [IE.sub_ok] at h
    exact h
theorem inst1L_ok {E : Val} {ρ ρ' : Rho} {s : Nat → IE} : ∀ {l : List SV} {us : List Value}, l.all SV.plain1 = true → DenL E ρ (l.map (SV.inst1 s)) us → DenL (subVal s E) ρ' l us
  | [], us, _, h => h
  | v :: l, us, hp, ⟨u, t, h1, h2, h3⟩ => by
    simp only [List.all_cons, Bool.and_eq_true] at hp
    exact ⟨u, t, inst1_ok hp.1 h1, inst1L_ok hp.2 h2, h3⟩
theorem inst_ok {E : Val} {ρ ρ' : Rho} {s : Nat → IE} {v : SV} {u : Value} (hp : v.plain = true) (h : Den E ρ (v.inst s) u) : Den (subVal s E) ρ' v u := by
  cases v
  case agg l =>
    obtain ⟨a, ha, rfl⟩ := h
    exact ⟨a, inst1L_ok hp ha, rfl⟩
  all_goals exact inst1_ok hp h
theorem instL_ok {E : Val} {ρ ρ' : Rho} {s : Nat → IE} : ∀ {l : List SV} {us : List Value}, l.all SV.plain = true → DenL E ρ (l.map (SV.inst s)) us → DenL (subVal s E) ρ' l us
  | [], us, _, h => h
  | v :: l, us, hp, ⟨u, t, h1, h2, h3⟩ => by
    simp only [List.all_cons, Bool.and_eq_true] at hp
    exact ⟨u, t, inst_ok hp.1 h1, instL_ok hp.2 h2, h3⟩
/-- What a tree says of a call. -/
noncomputable def TreeOk (P : Program) (G : Nat) (ts : List (Nat × List SV)) (f : FuncId) (pat : List SV) (n : Nat) (t : ATree) : Prop :=
  ∀ (E : Val) (us : List Value) (w : World), (rangeAsm n).Holds E.I → TabsIn E G ts w → DenL E (rho0 G) pat us → Calls P f us.toArray w fun e w' => ∃ u, e = .returned u ∧ Below w.heap.size w w' ∧ ∀ E' ρ, Den E' ρ (t.at E.I) u
theorem treeOk_of {P : Program} {G : Nat} {B : Asm → Base} {ts : List (Nat × List SV)} {k : Nat} {f : FuncId} {pat : List SV} {n : Nat} {t : ATree} (h : t.check (fun A => (rk ⟨P, A, G⟩ (B A) k).call f pat (tabHeap ts) G) (rangeAsm n) = true)
    (hB : ∀ (E : Val) (A : Asm), A.Holds E.I → BaseOk ⟨P, A, G⟩ E (B A)) : TreeOk P G ts f pat n t := by
  intro E us w hA hT ha
  obtain ⟨A', hA', hl, H', n', hr⟩ := ATree.ok hA h
  have := call_ok (C := ⟨P, A', G⟩) hr hA' (hB E A' hA') hT ha
  refine (callsIn_wide (n := 0)).1 (CallsIn.mono ((callsIn_wide (n := 0)).2 this) ?_)
  rintro e w' ⟨u, ρ', rfl, hb, hd⟩
  exact ⟨u, rfl, hb, fun E' ρ => SV.lits_ok hl hd⟩
structure TreeC where
  f : FuncId
  pat : List SV
  n : Nat
  t : ATree
noncomputable def treeCall (A : Asm) (ts : List (Nat × List SV)) (c : TreeC) (args : List SV) (H : SH) (n : Nat) : Option (SV × SH × Nat) :=
  let xs := args.flatMap SV.intsOf
  let s := fun i => xs.getD i (.lit 0)
  if (SV.beqL (c.pat.map (SV.inst s)) args && xs.all (inI64 A)) && tabsHere ts H then (c.t.walk A s).map fun v => (v, H, n) else none
noncomputable def tryTrees (A : Asm) (ts : List (Nat × List SV)) (f : FuncId) (args : List SV) (H : SH) (n : Nat) : List TreeC → Option (SV × SH × Nat)
  | [] => none
  | c :: l => if c.f = f then (match treeCall A ts c args H n with | some r => some r | none => tryTrees A ts f args H n l) else tryTrees A ts f args H n l
noncomputable def treeBase (A : Asm) (ts : List (Nat × List SV)) (l : List TreeC) : Base := { call := fun f args H n => tryTrees A ts f args H n l }
theorem rangeAsm_all {I : Nat → Int} (h : ∀ i, -9223372036854775808 ≤ I i ∧ I i ≤ 9223372036854775807) {n : Nat} : (rangeAsm n).Holds I := by
  refine ⟨fun o x y r hm => ?_, fun x y hm => by cases hm⟩
  simp only [rangeAsm, List.mem_flatMap, List.mem_range] at hm
  obtain ⟨i, _, hm⟩ := hm
  simp only [List.mem_cons, List.not_mem_nil, or_false] at hm
  have := h i
  rcases hm with hm | hm <;> cases hm
  · exact decide_eq_true this.1
  · exact decide_eq_true this.2
theorem treeBase_ok {P : Program} {A : Asm} {G : Nat} {E : Val} (hA : A.Holds E.I) {ts : List (Nat × List SV)} (hts : ∀ g l, (g, l) ∈ ts → g < G ∧ l.all SV.isLit = true) {l : List TreeC} (hl : ∀ c ∈ l, c.pat.all SV.plain = true ∧ TreeOk P G ts c.f c.pat c.n c.t) :
    BaseOk ⟨P, A, G⟩ E (treeBase A ts l) := by
  refine ⟨fun f args H n v H' n' h ρ w as r hg ha => ?_, fun _ _ _ _ _ h => by cases h⟩
  simp only [treeBase] at h
  induction l with
  | nil => cases h
  | cons c l ih =>
    have rest := fun h => ih (fun c hc => hl c (List.mem_cons_of_mem _ hc)) h
    simp only [tryTrees] at h
    split at h
    case isFalse => exact rest h
    rename_i hf
    split at h
    case h_2 => exact rest h
    rename_i r' hr
    cases h
    subst hf
    obtain ⟨hp, ok⟩ := hl c (List.mem_cons_self ..)
    simp only [treeCall] at hr
    split at hr
    case isFalse => cases hr
    rename_i hc
    simp only [Bool.and_eq_true, List.all_eq_true] at hc
    obtain ⟨⟨h1, h2⟩, h3⟩ := hc
    obtain ⟨x, hx, hr⟩ := Option.map_eq_some_iff.1 hr
    cases hr
    have hw := ATree.walk_ok hA _ hx
    rw [← SV.eq_of_beqL h1] at ha
    have ha' : DenL (subVal (fun i => (args.flatMap SV.intsOf).getD i (.lit 0)) E) (rho0 G) c.pat as := instL_ok hp ha
    have hT0 : TabsIn E G ts w := tabsHere_ok (C := ⟨P, A, G⟩) (fun g l hm => ⟨(hts g l hm).1, fun ρ us hd => DenL.lits (hts g l hm).2 hd⟩) r.rel hg h3
    have hT : TabsIn (subVal (fun i => (args.flatMap SV.intsOf).getD i (.lit 0)) E) G ts w := ⟨hT0.1, fun g l hm => by
      obtain ⟨k1, us, el, fz, k2, k3⟩ := hT0.2 g l hm
      exact ⟨k1, us, el, fz, k2, DenL.lits (hts g l hm).2 k3⟩⟩
    have hR : (rangeAsm c.n).Holds (subVal (fun i => (args.flatMap SV.intsOf).getD i (.lit 0)) E).I := rangeAsm_all fun i => by
      show _ ≤ ((args.flatMap SV.intsOf).getD i (.lit 0)).den E.I ∧ ((args.flatMap SV.intsOf).getD i (.lit 0)).den E.I ≤ _
      rw [List.getD_eq_getElem?_getD]
      cases e : (args.flatMap SV.intsOf)[i]? with
      | none => simp [IE.den]
      | some x => exact inI64_ok hA (h2 x (List.mem_of_getElem? e))
    refine (callsIn_wide (n := 0)).1 (CallsIn.mono ((callsIn_wide (n := 0)).2 (ok _ _ w hR hT ha')) ?_)
    rintro e w' ⟨u, rfl, hb, hd⟩
    rw [show (subVal (fun i => (args.flatMap SV.intsOf).getD i (.lit 0)) E).I = fun i => ((args.flatMap SV.intsOf).getD i (.lit 0)).den E.I from rfl, hw] at hd
    exact ⟨u, ρ, rfl, Stp.of_below r hb, hd E ρ⟩
#print axioms treeBase_ok
end Go.Proofs.YtfiangiajhdhcaaDoor
