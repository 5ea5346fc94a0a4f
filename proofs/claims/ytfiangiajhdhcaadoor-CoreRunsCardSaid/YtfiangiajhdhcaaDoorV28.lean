/- The reckoner: a symbolic evaluator of a program, proved sound; one of its texts. No condition. -/
import Derived.Test.YtfiangiajhdhcaaDoorV27
namespace Go.Proofs.YtfiangiajhdhcaaDoor
open Go.RowKit
set_option linter.unusedVariables false
set_option maxRecDepth 100000

/-! ### Laws where what is known beforehand hangs on the way -/
theorem law_okA {E : Val} {P : Program} {G : Nat} {B : Asm → Base} {ts : List (Nat × List SV)} {k : Nat} {f : FuncId} {args : List SV} {us : List Value} {t : Tree} {A0 : Asm} {w : World}
    (h : t.check (fun A => isTrueR ((rk ⟨P, A, G⟩ (B A) k).call f args (tabHeap ts) G)) A0 = true) (hA : A0.Holds E.I) (hB : ∀ A : Asm, A.Holds E.I → BaseOk ⟨P, A, G⟩ E (B A)) (hT : TabsIn E G ts w) (ha : DenL E (rho0 G) args us) :
    Calls P f us.toArray w fun e w' => e = .returned (.bool true) ∧ Below w.heap.size w w' := by
  obtain ⟨A', hA', h⟩ := Tree.ok hA h
  obtain ⟨H', n', hr⟩ := isTrue_ok h
  have := call_ok (C := ⟨P, A', G⟩) hr hA' (hB A' hA') hT ha
  refine (callsIn_wide (n := 0)).1 (CallsIn.mono ((callsIn_wide (n := 0)).2 this) ?_)
  rintro e w' ⟨u, ρ', rfl, hb, hd⟩
  cases hd
  exact ⟨rfl, hb⟩
noncomputable def litV : SV → Value
  | .bool b => .bool b
  | .str s => .string (bytesOf s)
  | .int k (.lit n) => .int k n
  | _ => undef
theorem DenL.vals {E : Val} {ρ : Rho} : ∀ {l : List SV} {us : List Value}, l.all SV.isLit = true → DenL E ρ l us → us = l.map litV
  | [], us, _, h => by cases h; rfl
  | v :: l, us, hl, ⟨u, t, h1, h2, h3⟩ => by
    simp only [List.all_cons, Bool.and_eq_true] at hl
    subst h3
    rw [DenL.vals hl.2 h2]
    cases v <;> try (simp [SV.isLit] at hl; done)
    case bool => cases h1; rfl
    case str => cases h1.2; rfl
    case int k e =>
      cases e <;> try (simp [SV.isLit] at hl; done)
      cases h1; rfl
/-- A table is what the library's contracts ask for. -/
theorem tabIs_of {E : Val} {P : Program} {G : Nat} {ts : List (Nat × List SV)} {w : World} (h : TabsIn E G ts w) {g : Nat} {l : List SV} (hm : (g, l) ∈ ts) {name : String} {k : IntKind} {zs : List Int} (hg : P.globalNamed name = some g) (hl : l.all SV.isLit = true) (hz : l.map litV = zs.map fun z => Value.int k z) :
    w.var? P name = some (zs.map fun z => Value.int k z).toArray := by
  obtain ⟨_, us, el, fz, h1, h2⟩ := h.2 g l hm
  rw [World.var?, hg, Option.bind_some, h1]
  simp only []
  rw [DenL.vals hl h2, hz]
end Go.Proofs.YtfiangiajhdhcaaDoor
