/- The reckoner: a symbolic evaluator of a program, proved sound; one of its texts. No condition. -/
import Derived.Test.YtfiangiajhdhcaaDoorV3
namespace Go.Proofs.YtfiangiajhdhcaaDoor
open Go.RowKit
set_option linter.unusedVariables false
set_option maxRecDepth 100000

section
variable {C : Ctx} {E : Val} {ρ : Rho} (w : World)
/-- A bound of a slice expression, as it is known. -/
noncomputable def sBound (C : Ctx) (e : Operand → R SV) (o : Option Operand) (dflt y : Nat) : R Nat :=
  match o with
  | none => .ok dflt
  | some x => (e x).bind fun v => match v with
    | .int _ ie => (concI C.A ie).bind fun i => if 0 ≤ i ∧ i ≤ y then .ok i.toNat else .no "bound"
    | _ => .no "bound: unknown"
theorem sBound_ok (hA : C.A.Holds E.I) {e : Operand → R SV} {ε : Operand → Value} (he : ∀ x v, e x = .ok v → Den E ρ v (ε x)) {x : Operand} {dflt y y' n : Nat} (hy : y ≤ y') (h : sBound C e (some x) dflt y = .ok n) (code : BoundsCode) :
    (Instr.sliceBound (ε x) y' code).run C.P w = .ok n w ∧ n ≤ y := by
  simp only [sBound, R.bind_ok] at h
  obtain ⟨v, hv, h⟩ := h
  split at h
  · rename_i k ie
    simp only [R.bind_ok] at h
    obtain ⟨i, hci, h⟩ := h
    split at h
    · rename_i hi
      cases h
      have e' : ε x = .int k i := (concI_ok hA hci) ▸ (he _ _ hv : ε x = .int k (ie.den E.I))
      rw [e']
      refine ⟨run_sliceBound w k i y' code hi.1 (by omega), by omega⟩
    · cases h
  · cases h
/-- The three numbers of a slice expression. -/
theorem sliceBounds_ok (hA : C.A.Holds E.I) {e : Operand → R SV} {ε : Operand → Value} (he : ∀ x v, e x = .ok v → Den E ρ v (ε x)) {lo hi : Option Operand} {len y cap l h : Nat} (hy : y ≤ cap) (hlen : len ≤ y)
    (hh : sBound C e hi len y = .ok h) (hl : sBound C e lo 0 h = .ok l) (b : Bool) :
    (Instr.sliceBounds b len cap (lo.map ε) (hi.map ε) none).run C.P w = .ok (l, h, cap) w ∧ l ≤ h ∧ h ≤ y := by
  cases hi with
  | none =>
    simp only [sBound] at hh
    cases hh
    cases lo with
    | none => simp only [sBound] at hl; cases hl; exact ⟨by simp [Instr.sliceBounds], by omega, hlen⟩
    | some x =>
      obtain ⟨h1, h2⟩ := sBound_ok (C := C) w hA he (Nat.le_refl _) hl .sliceB
      exact ⟨by simp [Instr.sliceBounds, h1], h2, hlen⟩
  | some z =>
    cases b
    · obtain ⟨g1, g2⟩ := sBound_ok (C := C) w hA he hy hh .sliceAlen
      cases lo with
      | none => simp only [sBound] at hl; cases hl; exact ⟨by simp [Instr.sliceBounds, g1], by omega, g2⟩
      | some x =>
        obtain ⟨h1, h2⟩ := sBound_ok (C := C) w hA he (Nat.le_refl _) hl .sliceB
        exact ⟨by simp [Instr.sliceBounds, Sem.run_bind, h1, g1], h2, g2⟩
    · obtain ⟨g1, g2⟩ := sBound_ok (C := C) w hA he hy hh .sliceAcap
      cases lo with
      | none => simp only [sBound] at hl; cases hl; exact ⟨by simp [Instr.sliceBounds, g1], by omega, g2⟩
      | some x =>
        obtain ⟨h1, h2⟩ := sBound_ok (C := C) w hA he (Nat.le_refl _) hl .sliceB
        exact ⟨by simp [Instr.sliceBounds, Sem.run_bind, h1, g1], h2, g2⟩
noncomputable def sSlice (C : Ctx) (e : Operand → R SV) (t : TypeId) (x : Operand) (lo hi : Option Operand) : R SV :=
  (C.under t).bind fun u => (e x).bind fun v => match u, v with
    | .string, .str s => (sBound C e hi s.length s.length).bind fun h => (sBound C e lo 0 h).bind fun l => .ok (.str ((s.drop l).take (h - l)))
    | .slice el, .nslice => (C.size el).bind fun _ => (sBound C e hi 0 0).bind fun h => (sBound C e lo 0 h).bind fun _ => .ok .nslice
    | .slice el, .slice s off len cap sz => (C.size el).bind fun z => if z = sz then
        (sBound C e hi len (cap.getD len)).bind fun h => (sBound C e lo 0 h).bind fun l =>
          if cap.getD len < len then .no "slice: cap" else
          .ok (.slice s (if cap = some l then off else off + l * sz) (h - l) (cap.map (· - l)) sz) else .no "slice: size"
    | .array n el, .ptr s off => (C.size el).bind fun z => if z = 0 then .no "slice: cells" else
        (sBound C e hi n n).bind fun h => (sBound C e lo 0 h).bind fun l =>
          .ok (.slice s (if n = l then off else off + l * z) (h - l) (some (n - l)) z)
    | _, _ => .no "slice"
theorem sSlice_ok (hA : C.A.Holds E.I) {e : Operand → R SV} {ε : Operand → Value} (he : ∀ x v, e x = .ok v → Den E ρ v (ε x)) {t : TypeId} {x : Operand} {lo hi : Option Operand} {v : SV} (h : sSlice C e t x lo hi = .ok v) :
    ∃ u, (Instr.sliceAt t (ε x) (lo.map ε) (hi.map ε) none).run C.P w = .ok u w ∧ Den E ρ v u := by
  simp only [sSlice, R.bind_ok] at h
  obtain ⟨d, hd, y, hy, h⟩ := h
  have hu := under_ok w hd
  have hx := he _ _ hy
  split at h
  case h_1 s =>
    obtain ⟨h1, h2⟩ := hx
    simp only [R.bind_ok] at h
    obtain ⟨hn, hh, l, hl, h⟩ := h
    cases h
    obtain ⟨b1, b2, b3⟩ := sliceBounds_ok (C := C) w hA he (Nat.le_refl s.length) (Nat.le_refl _) hh hl false
    refine ⟨.string ((bytesOf s).extract l hn), ?_, ?_, ?_⟩
    · simp only [Instr.sliceAt, Sem.run_bind, hu, Result.andThen_ok, Instr.slice, h2, bytesOf_size]
      simp [b1]
    · simp only [List.all_eq_true] at h1 ⊢
      exact fun z hz => h1 z (List.mem_of_mem_drop (List.mem_of_mem_take hz))
    · congr 1
      apply ByteArray.ext
      apply Array.ext'
      simp [bytesOf]
  case h_2 el =>
    simp only [R.bind_ok] at h
    obtain ⟨z, hz, hn, hh, l, hl, h⟩ := h
    cases h
    obtain ⟨b1, b2, b3⟩ := sliceBounds_ok (C := C) w hA he (Nat.le_refl 0) (Nat.le_refl _) hh hl true
    obtain rfl : hn = 0 := by omega
    obtain rfl : l = 0 := by omega
    refine ⟨.slice none 0 0, ?_, rfl⟩
    rw [hx]
    simp [Instr.sliceAt, Sem.run_bind, hu, Instr.slice, b1, size_ok w hz]
  case h_3 el s off len cap sz =>
    simp only [R.bind_ok] at h
    obtain ⟨z, hz, h⟩ := h
    split at h
    · rename_i hzs
      subst hzs
      simp only [R.bind_ok] at h
      obtain ⟨hn, hh, l, hl, h⟩ := h
      split at h
      · cases h
      · rename_i hcl
        cases h
        obtain ⟨p, hp, hx⟩ := hx
        rcases hx with ⟨rx, hle, hpos⟩ | ⟨rfl, rfl, ⟨q, rx⟩, hz0, hpos⟩
        · have hcap : cap.getD len ≤ cap.getD ((p.e - off) / z) := by cases cap <;> simp_all
          obtain ⟨b1, b2, b3⟩ := sliceBounds_ok (C := C) w hA he hcap (by omega) hh hl true
          rw [rx]
          generalize hK : cap.getD ((p.e - off) / z) = K at *
          refine ⟨_, by simp only [Instr.sliceAt, Sem.run_bind, hu, Result.andThen_ok, Instr.slice, b1, size_ok w hz, Sem.run_pure]; rfl, ?_⟩
          by_cases hKl : K = l
          · subst hKl
            simp only [if_true]
            cases cap with
            | none =>
              have b4 : hn ≤ len := b3
              have e0 : hn - K = 0 := by omega
              have e5 : (p.e - off) / z = K := hK
              exact ⟨p, hp, .inr ⟨e0, rfl, ⟨⟨p.b, p.o + off, none⟩, by simp [e0]⟩, by simp only [reduceCtorEq, if_false, ← Nat.sub_sub, Nat.mul_comm K z, Nat.sub_mul_div, e5]; omega, hpos⟩⟩
            | some c =>
              simp at hK; subst hK
              refine ⟨p, hp, .inl ⟨?_, by simp; omega, hpos⟩⟩
              simp
          · rw [if_neg hKl]
            refine ⟨p, hp, .inl ⟨?_, ?_, hpos⟩⟩
            · have hne : ¬ cap = some l := by rintro rfl; simp at hK; exact hKl hK.symm
              rw [if_neg hne]
              simp only [Option.map_some, add_plain]
              congr 1
              · rw [Nat.add_assoc]
              · subst hK
                cases cap with
                | none => simp [← Nat.sub_sub, Nat.mul_comm l z, Nat.sub_mul_div]
                | some c => simp
            · subst hK
              cases cap with
              | none =>
                have hne : ¬ (none : Option Nat) = some l := by simp
                have a1 : hn ≤ (p.e - off) / z := Nat.le_trans b3 hcap
                simp only [Option.map_none, Option.getD_none, if_neg hne, ← Nat.sub_sub, Nat.mul_comm l z, Nat.sub_mul_div]
                exact Nat.sub_le_sub_right a1 l
              | some c => simp at hle b3 ⊢; omega
        · simp only [Option.getD_none] at hh
          obtain ⟨b1, b2, b3⟩ := sliceBounds_ok (C := C) w hA he (Nat.le_refl 0) (Nat.le_refl _) hh hl true
          obtain rfl : hn = 0 := by omega
          obtain rfl : l = 0 := by omega
          rw [rx]
          refine ⟨.slice (some q) 0 0, ?_, p, hp, .inr ⟨rfl, rfl, ⟨q, rfl⟩, by simpa using hz0, hpos⟩⟩
          simp [Instr.sliceAt, Sem.run_bind, hu, Instr.slice, b1, size_ok w hz]
    · cases h
  case h_4 n el s off =>
    simp only [R.bind_ok] at h
    obtain ⟨z, hz, h⟩ := h
    split at h
    · cases h
    · rename_i hz0
      simp only [R.bind_ok] at h
      obtain ⟨hn, hh, l, hl, h⟩ := h
      cases h
      obtain ⟨p, hp, rx⟩ := hx
      obtain ⟨b1, b2, b3⟩ := sliceBounds_ok (C := C) w hA he (Nat.le_refl n) (Nat.le_refl _) hh hl false
      rw [rx]
      refine ⟨_, by simp only [Instr.sliceAt, Sem.run_bind, hu, Result.andThen_ok, Instr.sureAddr, b1, size_ok w hz, Sem.run_pure]; rfl, p, hp, .inl ⟨?_, by simp; omega, by omega⟩⟩
      by_cases e : n = l
      · simp [e]
      · simp [e, add_plain, Nat.add_assoc]
  case h_5 => cases h
/-! A slice expression of three numbers. -/
theorem sliceBounds3_ok (hA : C.A.Holds E.I) {e : Operand → R SV} {ε : Operand → Value} (he : ∀ x v, e x = .ok v → Den E ρ v (ε x)) {lo : Option Operand} {hi mx : Operand} {len y cap l h m : Nat} (hy : y ≤ cap)
    (hm : sBound C e (some mx) 0 y = .ok m) (hh : sBound C e (some hi) 0 m = .ok h) (hl : sBound C e lo 0 h = .ok l) (b : Bool) :
    (Instr.sliceBounds b len cap (lo.map ε) (some (ε hi)) (some (ε mx))).run C.P w = .ok (l, h, m) w ∧ l ≤ h ∧ h ≤ m ∧ m ≤ y := by
  obtain ⟨f1, f2⟩ := sBound_ok (C := C) w hA he hy hm (if b then .slice3Acap else .slice3Alen)
  obtain ⟨g1, g2⟩ := sBound_ok (C := C) w hA he (Nat.le_refl _) hh .slice3B
  cases lo with
  | none => simp only [sBound] at hl; cases hl; exact ⟨by simp [Instr.sliceBounds, Sem.run_bind, f1, g1], by omega, g2, f2⟩
  | some x =>
    obtain ⟨h1, h2⟩ := sBound_ok (C := C) w hA he (Nat.le_refl _) hl .slice3C
    exact ⟨by simp [Instr.sliceBounds, Sem.run_bind, h1, f1, g1], h2, g2, f2⟩
noncomputable def sSlice3 (C : Ctx) (e : Operand → R SV) (t : TypeId) (x : Operand) (lo : Option Operand) (hi mx : Operand) : R SV :=
  (C.under t).bind fun u => (e x).bind fun v => match u, v with
    | .slice el, .nslice => (C.size el).bind fun _ => (sBound C e (some mx) 0 0).bind fun m => (sBound C e (some hi) 0 m).bind fun h => (sBound C e lo 0 h).bind fun _ => .ok .nslice
    | .slice el, .slice s off len cap sz => (C.size el).bind fun z => if z = sz then
        (sBound C e (some mx) 0 (cap.getD len)).bind fun m => (sBound C e (some hi) 0 m).bind fun h => (sBound C e lo 0 h).bind fun l =>
          if cap.getD len < len ∨ (cap = none ∧ len = 0) then .no "slice3: cap" else
          .ok (.slice s (if m = l then off else off + l * sz) (h - l) (some (m - l)) sz) else .no "slice: size"
    | .array n el, .ptr s off => (C.size el).bind fun z => if z = 0 then .no "slice: cells" else
        (sBound C e (some mx) 0 n).bind fun m => (sBound C e (some hi) 0 m).bind fun h => (sBound C e lo 0 h).bind fun l =>
          .ok (.slice s (if m = l then off else off + l * z) (h - l) (some (m - l)) z)
    | _, _ => .no "slice3"
theorem sSlice3_ok (hA : C.A.Holds E.I) {e : Operand → R SV} {ε : Operand → Value} (he : ∀ x v, e x = .ok v → Den E ρ v (ε x)) {t : TypeId} {x hi mx : Operand} {lo : Option Operand} {v : SV} (h : sSlice3 C e t x lo hi mx = .ok v) :
    ∃ u, (Instr.sliceAt t (ε x) (lo.map ε) (some (ε hi)) (some (ε mx))).run C.P w = .ok u w ∧ Den E ρ v u := by
  simp only [sSlice3, R.bind_ok] at h
  obtain ⟨d, hd, y, hy, h⟩ := h
  have hu := under_ok w hd
  have hx := he _ _ hy
  split at h
  case h_1 el =>
    simp only [R.bind_ok] at h
    obtain ⟨z, hz, m, hm, hn, hh, l, hl, h⟩ := h
    cases h
    obtain ⟨b1, b2, b3, b4⟩ := sliceBounds3_ok (C := C) (len := 0) w hA he (Nat.le_refl 0) hm hh hl true
    obtain rfl : m = 0 := by omega
    obtain rfl : hn = 0 := by omega
    obtain rfl : l = 0 := by omega
    refine ⟨.slice none 0 0, ?_, rfl⟩
    rw [hx]
    simp [Instr.sliceAt, Sem.run_bind, hu, Instr.slice, b1, size_ok w hz]
  case h_2 el s off len cap sz =>
    simp only [R.bind_ok] at h
    obtain ⟨z, hz, h⟩ := h
    split at h
    · rename_i hzs
      subst hzs
      simp only [R.bind_ok] at h
      obtain ⟨m, hm, hn, hh, l, hl, h⟩ := h
      split at h
      · cases h
      · rename_i hcl
        cases h
        obtain ⟨p, hp, hx⟩ := hx
        rcases hx with ⟨rx, hle, hpos⟩ | ⟨rfl, rfl, _⟩
        · have hcap : cap.getD len ≤ cap.getD ((p.e - off) / z) := by cases cap <;> simp_all
          obtain ⟨b1, b2, b3, b4⟩ := sliceBounds3_ok (C := C) (len := len) w hA he hcap hm hh hl true
          rw [rx]
          refine ⟨_, by simp only [Instr.sliceAt, Sem.run_bind, hu, Result.andThen_ok, Instr.slice, b1, size_ok w hz, Sem.run_pure]; rfl, p, hp, .inl ⟨?_, by simp; omega, hpos⟩⟩
          by_cases e : m = l
          · simp [e]
          · simp [e, add_plain, Nat.add_assoc]
        · exact absurd (.inr ⟨rfl, rfl⟩) hcl
    · cases h
  case h_3 n el s off =>
    simp only [R.bind_ok] at h
    obtain ⟨z, hz, h⟩ := h
    split at h
    · cases h
    · rename_i hz0
      simp only [R.bind_ok] at h
      obtain ⟨m, hm, hn, hh, l, hl, h⟩ := h
      cases h
      obtain ⟨p, hp, rx⟩ := hx
      obtain ⟨b1, b2, b3, b4⟩ := sliceBounds3_ok (C := C) (len := n) w hA he (Nat.le_refl n) hm hh hl false
      rw [rx]
      refine ⟨_, by simp only [Instr.sliceAt, Sem.run_bind, hu, Result.andThen_ok, Instr.sureAddr, b1, size_ok w hz, Sem.run_pure]; rfl, p, hp, .inl ⟨?_, by simp; omega, by omega⟩⟩
      by_cases e : m = l
      · simp [e]
      · simp [e, add_plain, Nat.add_assoc]
  case h_4 => cases h
end
end Go.Proofs.YtfiangiajhdhcaaDoor
