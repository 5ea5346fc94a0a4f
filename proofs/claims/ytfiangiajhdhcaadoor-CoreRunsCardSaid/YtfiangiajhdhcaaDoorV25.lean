/- The reckoner: a symbolic evaluator of a program, proved sound; one of its texts. No condition. -/
import Derived.Test.YtfiangiajhdhcaaDoorV24
import Derived.Carry
import Derived.ChangeSame
namespace Go.Proofs.YtfiangiajhdhcaaDoor
open Go.RowKit
set_option linter.unusedVariables false
set_option maxRecDepth 100000

open Go.ChangeShapes Go.WideShapes
/-! ### Arguments -/
inductive CK where
  | int (k : IntKind)
  | bool
  | str
noncomputable def CK.ok : CK → Value → Prop
  | .int k, v => ∃ n, v = .int k n ∧ (Lit.int k n).wf = true
  | .bool, v => ∃ b, v = .bool b
  | .str, v => ∃ s, v = .string s
noncomputable def KOk : List CK → List Value → Prop
  | [], us => us = []
  | k :: ks, us => ∃ u t, k.ok u ∧ KOk ks t ∧ us = u :: t
theorem KOk.append : ∀ {l m : List CK} {us vs : List Value}, KOk l us → KOk m vs → KOk (l ++ m) (us ++ vs)
  | [], m, us, vs, h, k => by cases h; simpa using k
  | w :: l, m, us, vs, h, k => by
    obtain ⟨u, t, h1, h2, rfl⟩ := h
    exact ⟨u, t ++ vs, h1, KOk.append h2 k, rfl⟩
noncomputable def allLenK (s : Nat) (ls : List (List CK)) : Bool := ls.all fun l => l.length == s
noncomputable def contigK : List (Nat × Nat) → Nat → List (List CK) → Bool
  | [], _, [] => true
  | (o, s) :: fs, off, l :: ls => (o == off && l.length == s) && contigK fs (off + s) ls
  | _, _, _ => false
/-- The cells of a type of numbers, words and sides alone. -/
noncomputable def openT (P : Program) : Nat → TypeId → Option (List CK)
  | 0, _ => none
  | n + 1, t => match P.underlying t with
    | some (.int k) => some [.int k]
    | some .bool => some [.bool]
    | some .string => some [.str]
    | some (.array m e) => (openT P n e).bind fun l => if l.length == P.cellsOf e && P.cellsOf t == m * P.cellsOf e then some (List.replicate m l).flatten else none
    | some (.struct fs) => (fs.toList.mapM fun f => openT P n f.type).bind fun ls => if contigK (fs.toList.map fun f => (f.offset, P.cellsOf f.type)) 0 ls && P.cellsOf t == ls.flatten.length then some ls.flatten else none
    | _ => none
theorem KOk.chunks {s : Nat} : ∀ {ls : List (List CK)} {cs : List Value}, allLenK s ls = true → cs.length = ls.length * s → (∀ (i : Nat) (l : List CK), ls[i]? = some l → KOk l ((cs.drop (i * s)).take s)) → KOk ls.flatten cs
  | [], cs, _, hl, _ => by simp at hl; subst hl; rfl
  | l :: ls, cs, ha, hl, h => by
    simp only [allLenK, List.all_cons, Bool.and_eq_true, beq_iff_eq] at ha
    have h0 := h 0 l rfl
    simp only [Nat.zero_mul, List.drop_zero] at h0
    have ih := KOk.chunks (ls := ls) (cs := cs.drop s) ha.2 (by simp only [List.length_drop, hl, List.length_cons, Nat.add_mul, Nat.one_mul]; omega) (fun i l' hi => by
      have := h (i + 1) l' (by simpa using hi)
      rw [List.drop_drop]
      rwa [Nat.add_mul, Nat.one_mul, Nat.add_comm] at this)
    have := h0.append ih
    rwa [List.take_append_drop] at this
theorem KOk.parts : ∀ {fs : List (Nat × Nat)} {off : Nat} {ls : List (List CK)} {cs : List Value}, contigK fs off ls = true → cs.length = off + ls.flatten.length → (∀ (i : Nat) (o s : Nat) (l : List CK), fs[i]? = some (o, s) → ls[i]? = some l → KOk l ((cs.drop o).take s)) → KOk ls.flatten (cs.drop off)
  | [], off, [], cs, _, hl, _ => by
    simp at hl
    have : cs.drop off = [] := by simp [List.drop_eq_nil_iff]; omega
    rw [this]; rfl
  | [], off, _ :: _, cs, h, _, _ => by simp [contigK] at h
  | _ :: _, off, [], cs, h, _, _ => by simp [contigK] at h
  | (o, s) :: fs, off, l :: ls, cs, hc, hl, h => by
    simp only [contigK, Bool.and_eq_true, beq_iff_eq] at hc
    obtain ⟨⟨rfl, h2⟩, h3⟩ := hc
    have h0 := h 0 o s l rfl rfl
    have ih := KOk.parts (fs := fs) (off := o + s) (ls := ls) (cs := cs) h3 (by simp at hl ⊢; omega) (fun i o' s' l' hi hl' => h (i + 1) o' s' l' (by simpa using hi) (by simpa using hl'))
    have := h0.append ih
    rw [← List.drop_drop, List.take_append_drop] at this
    simpa using this
theorem openT_ok {H : Type} {P : Program} {w : World} {enc : TypeId × Value → H} {base : Nat} {spare : Nat → Bool} {held : Bool} : ∀ {n : Nat} {t : TypeId} {l : List CK} {fuel : Nat} {cs : List Value} {y : DataW H × List MemPlace},
    openT P n t = some l → DataW.trod enc P w base spare held fuel t cs = some y → KOk l cs
  | 0, t, l, fuel, cs, y, h, hy => by simp [openT] at h
  | n + 1, t, l, fuel, cs, y, h, hy => by
    unfold openT at h
    split at h
    · rename_i k hu
      cases h
      obtain ⟨m, rfl, _, hw⟩ := DataW.trod_int hu hy
      exact ⟨_, _, ⟨m, rfl, hw⟩, rfl, rfl⟩
    · rename_i hu
      cases h
      obtain ⟨m, rfl, _⟩ := DataW.trod_bool hu hy
      exact ⟨_, _, ⟨m, rfl⟩, rfl, rfl⟩
    · rename_i hu
      cases h
      obtain ⟨m, rfl, _, _⟩ := DataW.trod_string hu hy
      exact ⟨_, _, ⟨m, rfl⟩, rfl, rfl⟩
    · rename_i m e hu
      simp only [Option.bind_eq_some_iff] at h
      obtain ⟨le, hle, h⟩ := h
      split at h
      · rename_i hc
        cases h
        simp only [Bool.and_eq_true, beq_iff_eq] at hc
        obtain ⟨c1, c2⟩ := hc
        obtain ⟨xs, q, _, _, k1, k2, k3⟩ := DataW.trod_array hu hy
        refine KOk.chunks (s := P.cellsOf e) (by simp [allLenK, c1]) (by rw [k1, c2]; simp) (fun i l hi => ?_)
        have hlt : i < m := by have := (List.getElem?_eq_some_iff.1 hi).1; simpa using this
        have hl : l = le := by
          rw [List.getElem?_replicate, if_pos hlt] at hi
          exact (Option.some.inj hi).symm
        subst hl
        have hx := k3 i hlt
        have hix : i < xs.length := by omega
        rw [List.getElem?_eq_getElem hix] at hx
        exact openT_ok hle hx
      · cases h
    · rename_i fs hu
      simp only [Option.bind_eq_some_iff] at h
      obtain ⟨ls, hls, h⟩ := h
      split at h
      · rename_i hc
        cases h
        simp only [Bool.and_eq_true, beq_iff_eq] at hc
        obtain ⟨c1, c2⟩ := hc
        obtain ⟨g1, g2⟩ := mapM_get hls
        obtain ⟨xs, q, _, _, k1, k2, k3⟩ := DataW.trod_struct hu hy
        have := KOk.parts (cs := cs) c1 (by rw [k1, c2]; omega) (fun i o s l ho hl => ?_)
        · simpa using this
        · simp only [List.getElem?_map, Option.map_eq_some_iff, Prod.mk.injEq] at ho
          obtain ⟨f, hf, rfl, rfl⟩ := ho
          have hif : i < fs.size := by have := (List.getElem?_eq_some_iff.1 hf).1; simpa using this
          have hix : i < xs.length := by omega
          obtain ⟨b, hb, hfl⟩ := g2 i f hf
          rw [hl] at hb; cases hb
          have hx := k3 i f (by simpa using hf)
          rw [List.getElem?_eq_getElem hix] at hx
          exact openT_ok hfl hx
      · cases h
    · cases h
theorem okWide_array {P : Program} {w : World} {r : Reach} {b0 n : Nat} {t e : TypeId} {v : Value} (ht : P.underlying t = some (.array n e)) (h : Value.okWide P w r b0 t v) : ∃ cs, v = .agg cs ∧ cs.size = P.cellsOf t := by
  simp only [Value.okWide, ht] at h
  obtain ⟨cs, h1, h2, _⟩ := h
  exact ⟨cs, h1, h2⟩
/-- A struct or an array whose cells are known by kind. -/
theorem open_agg {H : Type} {P : Program} {W : World} {enc : TypeId × Value → H} {base b0 : Nat} {spare : Nat → Bool} {held : Bool} {r : Reach} {t : TypeId} {n : Nat} {ks : List CK} {v : Value} {d : DataW H} {p : List MemPlace} (ho : openT P n t = some ks)
    (ht : (match P.underlying t with | some (.struct _) => true | some (.array ..) => true | _ => false) = true) (hv : Value.okWide P W r b0 t v) (h : DataW.Trod enc P W base spare held t v d p) : ∃ cs : List Value, v = .agg cs.toArray ∧ KOk ks cs := by
  obtain ⟨fuel, hf⟩ := h
  have hk := openT_ok ho hf
  split at ht
  · rename_i fs hu
    obtain ⟨cs, rfl, _⟩ := okWide_struct hu hv
    exact ⟨cs.toList, by simp, hk⟩
  · rename_i m e hu
    obtain ⟨cs, rfl, _⟩ := okWide_array hu hv
    exact ⟨cs.toList, by simp, hk⟩
  · cases ht
/-- Numbers that the letters stand for, and their bounds. -/
noncomputable def valOf (l : List Int) : Val := { I := fun i => (l[i]?).getD 0, V := fun _ => .bool false }
noncomputable def rangeAsm (n : Nat) : Asm := { cmps := (List.range n).flatMap fun i => [(.geq, .at i, .lit (-9223372036854775808), true), (.leq, .at i, .lit 9223372036854775807, true)] }
theorem rangeAsm_ok {l : List Int} (h : ∀ x ∈ l, (Lit.int .i64 x).wf = true) (n : Nat) : (rangeAsm n).Holds (valOf l).I := by
  refine ⟨fun o x y r hm => ?_, fun x y hm => by cases hm⟩
  simp only [rangeAsm, List.mem_flatMap, List.mem_range] at hm
  obtain ⟨i, _, hm⟩ := hm
  have hb : -9223372036854775808 ≤ (valOf l).I i ∧ (valOf l).I i ≤ 9223372036854775807 := by
    simp only [valOf]
    cases e : l[i]? with
    | none => simp
    | some z =>
      have := h z (List.mem_of_getElem? e)
      simp only [Option.getD_some]
      simp only [Lit.wf] at this
      revert this
      simp [IntKind.min, IntKind.max, IntKind.bits, IntKind.signed]
  simp only [List.mem_cons, List.not_mem_nil, or_false, Prod.mk.injEq] at hm
  rcases hm with ⟨rfl, rfl, rfl, rfl⟩ | ⟨rfl, rfl, rfl, rfl⟩
  · exact decide_eq_true hb.1
  · exact decide_eq_true hb.2
theorem open_num {H : Type} {P : Program} {W : World} {enc : TypeId × Value → H} {base b0 : Nat} {spare : Nat → Bool} {held : Bool} {r : Reach} {t : TypeId} {v : Value} {d : DataW H} {p : List MemPlace} (hu : P.underlying t = some (.int .i64))
    (hv : Value.okWide P W r b0 t v) (h : DataW.Trod enc P W base spare held t v d p) : ∃ n, v = .int .i64 n ∧ (Lit.int .i64 n).wf = true := by
  obtain ⟨n, h1, _, _, h2⟩ := open_int hu hv h
  exact ⟨n, h1, h2⟩
theorem open_side {H : Type} {P : Program} {W : World} {enc : TypeId × Value → H} {base b0 : Nat} {spare : Nat → Bool} {held : Bool} {r : Reach} {t : TypeId} {v : Value} {d : DataW H} {p : List MemPlace} (hu : P.underlying t = some .bool)
    (hv : Value.okWide P W r b0 t v) (h : DataW.Trod enc P W base spare held t v d p) : ∃ n, v = .bool n := by
  obtain ⟨n, h1, _⟩ := open_bool hu hv h
  exact ⟨n, h1⟩
end Go.Proofs.YtfiangiajhdhcaaDoor
