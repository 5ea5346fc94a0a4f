/- The reckoner: a symbolic evaluator of a program, proved sound; one of its texts. No condition. -/
import Derived.Test.YtfiangiajhdhcaaDoorV25
namespace Go.Proofs.YtfiangiajhdhcaaDoor
open Go.RowKit
set_option linter.unusedVariables false
set_option maxRecDepth 100000

/-! ### Calls of the library whose answers are known -/
noncomputable def ilist : List SV → Option (List IE)
  | [] => some []
  | .int .i64 e :: l => (ilist l).map (e :: ·)
  | _ => none
theorem ilist_ok {E : Val} {ρ : Rho} : ∀ {l : List SV} {us : List Value} {es : List IE}, DenL E ρ l us → ilist l = some es → us = es.map fun e => Value.int .i64 (e.den E.I)
  | [], us, es, h, k => by cases h; simp only [ilist, Option.some.injEq] at k; subst k; rfl
  | v :: l, us, es, ⟨u, t, h1, h2, h3⟩, k => by
    cases v <;> try (simp [ilist] at k; done)
    rename_i kk e
    have hk : kk = .i64 ∧ ∃ m, ilist l = some m ∧ e :: m = es := by
      cases kk <;> simp_all [ilist]
    obtain ⟨rfl, m, hm, rfl⟩ := hk
    subst h3
    rw [ilist_ok h2 hm]
    simp only [Den] at h1
    rw [h1]; rfl
/-- The numbers of a row. -/
noncomputable def rowInts (H : SH) : SV → Option (List IE)
  | .nslice => some []
  | .slice s off len _ sz => if sz = 1 then (match H.get s with | some (.cells l _) => if off + len ≤ l.length then ilist ((l.drop off).take len) else none | _ => none) else none
  | _ => none
/-- A row of numbers, as a value. -/
noncomputable def RowOf (w : World) (v : Value) (xs : List Int) : Prop :=
  (xs = [] ∧ ∃ a c, v = .slice a 0 c) ∨ ∃ b o c, v = .slice (some ⟨b, o, none⟩) xs.length c ∧ b < w.heap.size ∧ ∀ (j : Nat) (x : Int), xs[j]? = some x → w.cell? ⟨b, o + j, none⟩ = some (.int .i64 x)
theorem rowInts_ok {E : Val} {ρ : Rho} {H : SH} {w : World} (r : HRel E ρ H w) {v : SV} {u : Value} {es : List IE} (hv : Den E ρ v u) (h : rowInts H v = some es) : RowOf w u (es.map fun e => e.den E.I) := by
  unfold rowInts at h
  split at h
  · cases h; cases hv; exact .inl ⟨rfl, _, _, rfl⟩
  · rename_i s off len cap sz
    split at h
    case isFalse => cases h
    rename_i hsz
    split at h
    case h_2 => cases h
    rename_i l ext hb
    split at h
    case isFalse => cases h
    rename_i hle
    obtain ⟨p, hp, hd⟩ := hv
    obtain ⟨q, hq, c, el, us, h1, h2, h3, _⟩ := r.blk _ _ hb
    rw [hp] at hq; cases hq
    have hl := h2.length
    have he := ilist_ok (h2.drop (n := off) |>.take (n := len)) h
    have hlen : es.length = len := by
      have := congrArg List.length he
      simp only [List.length_take, List.length_drop, List.length_map] at this
      omega
    rcases hd with ⟨rfl, _⟩ | ⟨h0, _, ⟨a, rfl⟩, _⟩
    · refine .inr ⟨p.b, p.o + off, cap.getD ((p.e - off) / sz), by rw [List.length_map, hlen], heap_lt h1, fun j x hj => ?_⟩
      simp only [List.getElem?_map, Option.map_eq_some_iff] at hj
      obtain ⟨e, hj, rfl⟩ := hj
      have hjl : j < len := by have := (List.getElem?_eq_some_iff.1 hj).1; omega
      have e2 : us[off + j]? = some (.int .i64 (e.den E.I)) := by
        have := congrArg (·[j]?) he
        simp only [List.getElem?_map, hj, Option.map_some] at this
        rw [List.getElem?_take, if_pos hjl, List.getElem?_drop] at this
        exact this
      rw [cell_at h1, Nat.add_assoc]
      exact h3 _ _ e2
    · have : es = [] := List.eq_nil_of_length_eq_zero (by omega)
      subst this
      exact .inl ⟨rfl, _, _, rfl⟩
  · cases h
noncomputable def joinCh (word : List Ch) (ns : List IE) : List Ch := word ++ ns.flatMap fun e => .c 32 :: numCh e
/-- A word, and numbers behind it, a blank ahead of each. -/
noncomputable def joinBytes (word : List UInt8) (ns : List Int) : List UInt8 := word ++ ns.flatMap fun n => 32 :: Go.Lib.itoa n
theorem joinCh_ok (I : Nat → Int) (word : List Ch) (ns : List IE) : chDen I (joinCh word ns) = joinBytes (chDen I word) (ns.map fun e => e.den I) ∧ (chWf word = true → chWf (joinCh word ns) = true) := by
  have : chDen I (ns.flatMap fun e => .c 32 :: numCh e) = (ns.map fun e => e.den I).flatMap (fun n => 32 :: Go.Lib.itoa n) ∧ chWf (ns.flatMap fun e => .c 32 :: numCh e) = true := by
    induction ns with
    | nil => exact ⟨rfl, rfl⟩
    | cons e ns ih =>
      constructor
      · simp only [List.flatMap_cons, List.map_cons, chDen_append, List.cons_append, chDen, ih.1, (numCh_ok I e).1]
        rfl
      · simp only [List.flatMap_cons, chWf_append, chWf, (numCh_ok I e).2, ih.2]
        decide
  exact ⟨by rw [joinCh, chDen_append, this.1]; rfl, fun h => by rw [joinCh, chWf_append, h, this.2]; rfl⟩
noncomputable def chShort (A : Asm) (ch : List Ch) : Bool := match chMost A ch with | some m => decide (m ≤ 100) | none => false
inductive LibF where
  | itoa
  | dec
  | join
noncomputable def libCall (A : Asm) (ts : List (Nat × List SV)) (k : LibF) (args : List SV) (H : SH) (n : Nat) : Option (SV × SH × Nat) :=
  match k, args with
  | .itoa, [.int .i64 e] => if inI64 A e && tabsHere ts H then some (mkTxt (numCh e), H, n) else none
  | .dec, [.int .i64 e] => if inI64 A e then some (mkTxt (numCh e), H, n) else none
  | .join, [w, x] => match w.chars, rowInts H x with
    | some ch, some ns => if (chShort A ch && decide (ns.length ≤ 20)) && (ns.all (inI64 A) && tabsHere ts H) then some (mkTxt (joinCh ch ns), H, n) else none
    | _, _ => none
  | _, _ => none
noncomputable def libBase (A : Asm) (ts : List (Nat × List SV)) (l : List (FuncId × LibF)) : Base :=
  { call := fun f args H n => match l.lookup f with | some k => libCall A ts k args H n | none => none }
noncomputable def LibOk (P : Program) (G : Nat) (ts : List (Nat × List SV)) (f : FuncId) : LibF → Prop
  | .itoa => ∀ (E : Val) (w : World) (n : Int), -9223372036854775808 ≤ n → n ≤ 9223372036854775807 → TabsIn E G ts w → Calls P f #[.int .i64 n] w fun e w' => e = .returned (.string ⟨(Go.Lib.itoa n).toArray⟩) ∧ Below w.heap.size w w'
  | .dec => ∀ (w : World) (n : Int), -9223372036854775808 ≤ n → n ≤ 9223372036854775807 → Calls P f #[.int .i64 n] w fun e w' => e = .returned (.string ⟨(Go.Lib.itoa n).toArray⟩) ∧ Below w.heap.size w w'
  | .join => ∀ (E : Val) (w : World) (word : List UInt8) (v : Value) (xs : List Int), word.length ≤ 100 → xs.length ≤ 20 → (∀ x ∈ xs, -9223372036854775808 ≤ x ∧ x ≤ 9223372036854775807) → RowOf w v xs → TabsIn E G ts w →
      Calls P f #[.string ⟨word.toArray⟩, v] w fun e w' => e = .returned (.string ⟨(joinBytes word xs).toArray⟩) ∧ Below w.heap.size w w'
theorem libBase_ok {P : Program} {A : Asm} {G : Nat} {E : Val} (hA : A.Holds E.I) {ts : List (Nat × List SV)} {l : List (FuncId × LibF)} (hts : ∀ g l, (g, l) ∈ ts → g < G ∧ ∀ (E : Val) (ρ : Rho) (us : List Value), DenL E ρ l us → DenL E (rho0 G) l us)
    (hl : ∀ f k, l.lookup f = some k → LibOk P G ts f k) : BaseOk ⟨P, A, G⟩ E (libBase A ts l) := by
  refine ⟨fun f args H n v H' n' h ρ w as r hg ha => ?_, fun _ _ _ _ _ h => by cases h⟩
  simp only [libBase] at h
  split at h
  case h_2 => cases h
  rename_i k hk
  have ok := hl f k hk
  have fin : ∀ {e : Ending} {w' : World} {s : List UInt8} {chs : List Ch}, e = .returned (.string ⟨s.toArray⟩) ∧ Below w.heap.size w w' → chDen E.I chs = s → chWf chs = true → H' = H → n' = n → v = mkTxt chs → ∃ u ρ', e = .returned u ∧ Stp E ρ H n w ρ' H' n' w' ∧ Den E ρ' v u := by
    rintro e w' s chs ⟨rfl, hb⟩ rfl hwf rfl rfl rfl
    exact ⟨_, ρ, rfl, Stp.of_below r hb, mkTxt_ok hwf⟩
  unfold libCall at h
  split at h
  · rename_i e
    split at h
    case isFalse => cases h
    rename_i hc
    simp only [Bool.and_eq_true] at hc
    cases h
    obtain ⟨u, t, h1, h2, rfl⟩ := ha
    cases h2
    cases h1
    have hi := inI64_ok hA hc.1
    have hT := tabsHere_ok (C := ⟨P, A, G⟩) (E := E) (fun g l hm => ⟨(hts g l hm).1, (hts g l hm).2 E⟩) r.rel hg hc.2
    refine (callsIn_wide (n := 0)).1 (CallsIn.mono ((callsIn_wide (n := 0)).2 (ok E w _ hi.1 hi.2 hT)) ?_)
    intro e' w' hh
    exact fin hh (numCh_ok E.I e).1 (numCh_ok E.I e).2 rfl rfl rfl
  · rename_i e
    split at h
    case isFalse => cases h
    rename_i hc
    cases h
    obtain ⟨u, t, h1, h2, rfl⟩ := ha
    cases h2
    cases h1
    have hi := inI64_ok hA hc
    refine (callsIn_wide (n := 0)).1 (CallsIn.mono ((callsIn_wide (n := 0)).2 (ok w _ hi.1 hi.2)) ?_)
    intro e' w' hh
    exact fin hh (numCh_ok E.I e).1 (numCh_ok E.I e).2 rfl rfl rfl
  · rename_i sw sx
    split at h
    case h_2 => cases h
    rename_i ch ns hch hns
    split at h
    case isFalse => cases h
    rename_i hc
    simp only [Bool.and_eq_true, decide_eq_true_eq, List.all_eq_true] at hc
    cases h
    obtain ⟨u, t, h1, ⟨u2, t2, h2, h3, e2⟩, e1⟩ := ha
    cases h3; subst e2; subst e1
    obtain ⟨k1, rfl⟩ := SV.chars_ok h1 hch
    have hrow := rowInts_ok r.rel h2 hns
    have hT := tabsHere_ok (C := ⟨P, A, G⟩) (E := E) (fun g l hm => ⟨(hts g l hm).1, (hts g l hm).2 E⟩) r.rel hg hc.2.2
    have hw : (chDen E.I ch).length ≤ 100 := by
      have h0 := hc.1.1
      unfold chShort at h0
      split at h0
      · rename_i m hm
        have := chMost_ok hA hm
        simp only [decide_eq_true_eq] at h0
        omega
      · cases h0
    refine (callsIn_wide (n := 0)).1 (CallsIn.mono ((callsIn_wide (n := 0)).2 (ok E w (chDen E.I ch) u2 _ hw (by simpa using hc.1.2) (fun x hx => ?_) hrow hT)) ?_)
    · simp only [List.mem_map] at hx
      obtain ⟨e, he, rfl⟩ := hx
      exact inI64_ok hA (hc.2.1 e he)
    · intro e' w' hh
      exact fin hh (joinCh_ok E.I ch ns).1 ((joinCh_ok E.I ch ns).2 k1) rfl rfl rfl
  · cases h
noncomputable def Base.or (B1 B2 : Base) : Base := { call := fun f args H n => match B1.call f args H n with | some r => some r | none => B2.call f args H n, code := fun ro c st => match B1.code ro c st with | some r => some r | none => B2.code ro c st }
theorem BaseOk.or {C : Ctx} {E : Val} {B1 B2 : Base} (h1 : BaseOk C E B1) (h2 : BaseOk C E B2) : BaseOk C E (B1.or B2) := by
  refine ⟨fun f args H n v H' n' h => ?_, fun ro c st x st' h => ?_⟩
  · simp only [Base.or] at h
    split at h
    · rename_i r hr; cases h; exact h1.call _ _ _ _ _ _ _ hr
    · exact h2.call _ _ _ _ _ _ _ h
  · simp only [Base.or] at h
    split at h
    · rename_i r hr; cases h; exact h1.code _ _ _ _ _ hr
    · exact h2.code _ _ _ _ _ h
end Go.Proofs.YtfiangiajhdhcaaDoor
