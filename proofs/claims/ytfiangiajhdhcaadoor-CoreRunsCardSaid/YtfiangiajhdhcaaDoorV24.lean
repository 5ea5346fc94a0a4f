/- The reckoner: a symbolic evaluator of a program, proved sound; one of its texts. No condition. -/
import Derived.Test.YtfiangiajhdhcaaDoorV23
namespace Go.Proofs.YtfiangiajhdhcaaDoor
open Go.RowKit
set_option linter.unusedVariables false
set_option maxRecDepth 100000

/-! ### Laws -/
noncomputable def isTrueR : R (SV × SH × Nat) → Bool
  | .ok (.bool true, _, _) => true
  | _ => false
noncomputable def tabHeap : List (Nat × List SV) → SH
  | [] => .nil
  | (g, l) :: ts => (tabHeap ts).set g (.ro l)
noncomputable def rho0 (G : Nat) : Rho := fun s => if s < G then some ⟨s, 0, 0, undef⟩ else none
/-- Tables that lie where package variables lie. -/
noncomputable def TabsIn (E : Val) (G : Nat) (ts : List (Nat × List SV)) (w : World) : Prop :=
  E.K w ∧ ∀ g l, (g, l) ∈ ts → g < G ∧ ∃ (us : List Value) (el : TypeId) (fz : Nat × Nat), w.heap[g]? = some (.cells us.toArray el fz) ∧ DenL E (rho0 G) l us
theorem TabsIn.next {E : Val} {G : Nat} {ts : List (Nat × List SV)} {w w' : World} (h : TabsIn E G ts w) (hb : Below w.heap.size w w') : TabsIn E G ts w' := by
  refine ⟨E.Kloc _ _ h.1 (fun k hk => hb.block k (E.Klt _ _ h.1 hk)), ?_⟩
  intro g l hm
  obtain ⟨h1, us, el, fz, h2, h3⟩ := h.2 g l hm
  exact ⟨h1, us, el, fz, (hb.block _ (heap_lt h2)).trans h2, h3⟩
theorem tabHeap_get : ∀ {ts : List (Nat × List SV)} {s : Nat} {b : SBlk}, (tabHeap ts).get s = some b → ∃ l, (s, l) ∈ ts ∧ b = .ro l
  | [], s, b, h => by simp [tabHeap, Tr.get_nil] at h
  | (g, l) :: ts, s, b, h => by
    simp only [tabHeap, Tr.get_set] at h
    split at h
    · rename_i e
      subst e
      cases h
      exact ⟨l, by simp, rfl⟩
    · obtain ⟨l', h1, h2⟩ := tabHeap_get h
      exact ⟨l', by simp [h1], h2⟩
theorem start_fpw {E : Val} {G : Nat} {ts : List (Nat × List SV)} {k : Nat} : ¬ fpw E (rho0 G) (tabHeap ts) k := by
  rintro ⟨s, b, p, h1, h2, _⟩
  obtain ⟨l, _, rfl⟩ := tabHeap_get h1
  cases h2
theorem start_ok {E : Val} {G : Nat} {ts : List (Nat × List SV)} {w : World} (h : TabsIn E G ts w) : StR E (rho0 G) (tabHeap ts) G w := by
  refine ⟨⟨fun s b hb => ?_, fun s t bs bt ps pt k g1 g2 hs ht f1 f2 => ?_, h.1, fun k hk hf => start_fpw hf⟩, fun s hs => by simp [rho0]; omega⟩
  · obtain ⟨l, hm, rfl⟩ := tabHeap_get hb
    obtain ⟨h1, us, el, fz, h2, h3⟩ := h.2 s l hm
    exact ⟨⟨s, 0, 0, undef⟩, by simp [rho0, h1], rfl, us, el, fz, h2, h3⟩
  · simp only [rho0, Option.ite_none_right_eq_some, Option.some.injEq] at hs ht
    obtain ⟨_, rfl⟩ := hs
    obtain ⟨_, rfl⟩ := ht
    obtain ⟨l1, _, rfl⟩ := tabHeap_get g1
    obtain ⟨l2, _, rfl⟩ := tabHeap_get g2
    exact (show s = k from f1).trans (show t = k from f2).symm
theorem start_glo (G : Nat) : Glo G (rho0 G) := fun g hg => ⟨0, by simp [rho0, hg]⟩
theorem FrS.below {S : Nat → Prop} {w w' : World} (h : FrS S w w') (hn : ∀ k, ¬ S k) : Below w.heap.size w w' := ⟨h.os, h.tape, h.output, h.size, fun k hk => h.block k hk (hn k)⟩
/-- A call whose result is reckoned, over tables alone. -/
theorem call_ok {E : Val} {C : Ctx} {B : Base} {ts : List (Nat × List SV)} {k : Nat} {f : FuncId} {args : List SV} {as : List Value} {v : SV} {H' : SH} {n' : Nat} {w : World} (h : (rk C B k).call f args (tabHeap ts) C.G = .ok (v, H', n')) (hA : C.A.Holds E.I) (hB : BaseOk C E B) (hT : TabsIn E C.G ts w)
    (ha : DenL E (rho0 C.G) args as) : Calls C.P f as.toArray w fun e w' => ∃ u ρ', e = .returned u ∧ Below w.heap.size w w' ∧ Den E ρ' v u := by
  have := reckon hA hB k h (start_ok hT) (start_glo _) ha
  refine (callsIn_wide (n := 0)).1 (CallsIn.mono ((callsIn_wide (n := 0)).2 this) ?_)
  rintro e w' ⟨u, ρ', he, hs, hd⟩
  exact ⟨u, ρ', he, hs.fr.below (fun k => start_fpw), hd⟩
theorem isTrue_ok {r : R (SV × SH × Nat)} (h : isTrueR r = true) : ∃ H' n', r = .ok (.bool true, H', n') := by
  cases r with
  | no why => cases h
  | ok r =>
    obtain ⟨v, H', n'⟩ := r
    cases v <;> simp [isTrueR] at h
    rename_i b
    cases b
    · simp at h
    · exact ⟨_, _, rfl⟩
/-- **A law that the reckoner finds true on every way.** -/
theorem law_ok {E : Val} {P : Program} {G : Nat} {B : Base} {ts : List (Nat × List SV)} {k : Nat} {f : FuncId} {args : List SV} {as : List Value} {t : Tree} {A0 : Asm} {w : World}
    (h : t.check (fun A => isTrueR ((rk ⟨P, A, G⟩ B k).call f args (tabHeap ts) G)) A0 = true) (hA : A0.Holds E.I) (hB : ∀ A : Asm, A.Holds E.I → BaseOk ⟨P, A, G⟩ E B) (hT : TabsIn E G ts w) (ha : DenL E (rho0 G) args as) :
    Calls P f as.toArray w fun e w' => e = .returned (.bool true) ∧ Below w.heap.size w w' := by
  obtain ⟨A', hA', h⟩ := Tree.ok hA h
  obtain ⟨H', n', hr⟩ := isTrue_ok h
  have := call_ok (C := ⟨P, A', G⟩) hr hA' (hB A' hA') hT ha
  refine (callsIn_wide (n := 0)).1 (CallsIn.mono ((callsIn_wide (n := 0)).2 this) ?_)
  rintro e w' ⟨u, ρ', rfl, hb, hd⟩
  cases hd
  exact ⟨rfl, hb⟩
/-- Are the tables there? -/
noncomputable def tabsHere (ts : List (Nat × List SV)) (H : SH) : Bool := ts.all fun (g, l) => match H.get g with | some (.ro l') => SV.beqL l' l | _ => false
theorem tabsHere_ok {C : Ctx} {E : Val} {ρ : Rho} {H : SH} {w : World} {ts : List (Nat × List SV)} (hts : ∀ g l, (g, l) ∈ ts → g < C.G ∧ ∀ ρ us, DenL E ρ l us → DenL E (rho0 C.G) l us) (r : HRel E ρ H w) (hg : Glo C.G ρ) (h : tabsHere ts H = true) : TabsIn E C.G ts w := by
  refine ⟨r.kept, ?_⟩
  intro g l hm
  obtain ⟨h1, h2⟩ := hts g l hm
  have h3 := List.all_eq_true.1 h (g, l) hm
  dsimp only at h3
  split at h3
  · rename_i l' hl
    rw [SV.eq_of_beqL h3] at hl
    obtain ⟨p, hp, k0, us, el, fz, k1, k2⟩ := r.blk _ _ hl
    obtain ⟨e, he⟩ := hg g h1
    rw [he] at hp; cases hp
    exact ⟨h1, us, el, fz, k1, h2 _ _ k2⟩
  · cases h3
/-- A call without arguments whose result is known: the worlds below are as they were. -/
noncomputable def constBase (ts : List (Nat × List SV)) (l : List (FuncId × SV)) : Base :=
  { call := fun f args H n => match args with
      | [] => if tabsHere ts H then (match l.lookup f with | some v => some (v, H, n) | none => none) else none
      | _ => none }
theorem Stp.of_below {E : Val} {ρ : Rho} {H : SH} {n : Nat} {w w' : World} (r : StR E ρ H n w) (h : Below w.heap.size w w') : Stp E ρ H n w ρ H n w' :=
  ⟨fun _ _ => rfl, Nat.le_refl _, r.fresh, ⟨fun s b hb => let ⟨p, hp, k⟩ := r.rel.blk s b hb; ⟨p, hp, k.mono (.refl _) (fun j hj => h.block _ (k.ltf hj))⟩, r.rel.inj, E.Kloc _ _ r.rel.kept (fun k hk => h.block k (E.Klt _ _ r.rel.kept hk)), r.rel.free⟩, ⟨h.os, h.tape, h.output, h.size, fun k hk _ => h.block k hk⟩, fun _ h => .inl h, fun _ h => .inl h⟩
theorem constBase_ok {C : Ctx} {E : Val} {ts : List (Nat × List SV)} {l : List (FuncId × SV)} (hts : ∀ g l, (g, l) ∈ ts → g < C.G ∧ ∀ ρ us, DenL E ρ l us → DenL E (rho0 C.G) l us)
    (hl : ∀ f v, l.lookup f = some v → ∀ w, TabsIn E C.G ts w → Calls C.P f #[] w fun e w' => ∃ u, e = .returned u ∧ Below w.heap.size w w' ∧ ∀ ρ, Den E ρ v u) : BaseOk C E (constBase ts l) := by
  refine ⟨fun f args H n v H' n' h ρ w as r hg ha => ?_, fun _ _ _ _ _ h => (by cases h)⟩
  simp only [constBase] at h
  split at h
  · split at h
    · rename_i hh
      split at h
      · rename_i v' hv
        cases h
        cases ha
        refine (callsIn_wide (n := 0)).1 (CallsIn.mono ((callsIn_wide (n := 0)).2 (hl f _ hv w (tabsHere_ok hts r.rel hg hh))) ?_)
        rintro e w' ⟨u, rfl, hb, hd⟩
        exact ⟨u, ρ, rfl, Stp.of_below r hb, hd ρ⟩
      · cases h
    · cases h
  · cases h
/-- A table out of what lies in a law's world. -/
theorem tab_laid {E : Val} {P : Program} {w : World} {G : Nat} {n : String} {d : DataW Unit} {g : Nat} {t : TypeId} {fuel : Nat} {l : List SV} (hg : P.globalNamed n = some g) (ht : (P.globals[g]?).map (·.type) = some t) (hf : flatD P fuel t d = some l) (hG : g < G) :
    ∀ {laid : List (String × DataW Unit)} {ps : List MemPlace}, DataW.LaidVars P w laid ps → (n, d) ∈ laid → g < G ∧ ∃ (us : List Value) (el : TypeId) (fz : Nat × Nat), w.heap[g]? = some (.cells us.toArray el fz) ∧ DenL E (rho0 G) l us
  | [], ps, h, hm => by cases hm
  | (n', d') :: laid, ps, h, hm => by
    obtain ⟨g', t', cs, fuel', p, q, hg', ht', hvar, hd, hrest, _⟩ := h
    rcases List.mem_cons.1 hm with e | hm
    · cases e
      rw [hg] at hg'; cases hg'
      rw [ht] at ht'; cases ht'
      have hv := hvar
      simp only [World.var?, hg, Option.bind_some] at hv
      split at hv
      · rename_i c el fz heq
        cases hv
        exact ⟨hG, cs.toList, el, fz, by simpa using heq, flatD_ok hf hd rfl⟩
      · cases hv
    · exact tab_laid hg ht hf hG hrest hm
#print axioms law_ok
end Go.Proofs.YtfiangiajhdhcaaDoor
