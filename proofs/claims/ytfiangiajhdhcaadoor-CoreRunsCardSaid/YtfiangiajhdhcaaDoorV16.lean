/- The reckoner: a symbolic evaluator of a program, proved sound; one of its texts. No condition. -/
import Derived.Test.YtfiangiajhdhcaaDoorV15
namespace Go.Proofs.YtfiangiajhdhcaaDoor
open Go.RowKit
set_option linter.unusedVariables false
set_option maxRecDepth 100000

/-! ### Regions whose order is drawn: what the reckoner has found -/
section
variable {n0 : Nat} {inc exc inc' : Nat → Bool} {S : SH}
theorem addA_in : ∀ {al : List (Nat × SBlk)} {i : Nat} {b : SBlk}, (∀ k b b', (k, b) ∈ al → (k, b') ∈ al → b = b') → (i, b) ∈ al → inc i = true → exc i = false → (addA n0 inc exc S al).get (n0 + i) = some b
  | (j, c) :: l, i, b, hf, hm, h1, h2 => by
    have hf' : ∀ k b b', (k, b) ∈ l → (k, b') ∈ l → b = b' := fun k b b' x y => hf k b b' (by simp [x]) (by simp [y])
    simp only [addA]
    by_cases e : j = i
    · subst e
      have : c = b := hf j c b (by simp) hm
      subst this
      rw [if_pos (by simp [h1, h2]), Tr.get_set, if_pos rfl]
    · have hm' : (i, b) ∈ l := by
        rcases List.mem_cons.1 hm with h | h
        · cases h; exact absurd rfl e
        · exact h
      split
      · rw [Tr.get_set, if_neg (by omega)]; exact addA_in hf' hm' h1 h2
      · exact addA_in hf' hm' h1 h2
theorem addA_cases : ∀ {al : List (Nat × SBlk)} {s : Nat} {x : SBlk}, (addA n0 inc exc S al).get s = some x → (∃ i, (i, x) ∈ al ∧ s = n0 + i ∧ inc i = true ∧ exc i = false) ∨ S.get s = some x
  | [], s, x, h => .inr h
  | (j, c) :: l, s, x, h => by
    simp only [addA] at h
    split at h
    · rename_i hc
      rw [Tr.get_set] at h
      split at h
      · rename_i e
        cases h
        simp at hc
        exact .inl ⟨j, by simp, e, hc.1, hc.2⟩
      · rcases addA_cases h with ⟨i, h1, h2⟩ | h
        · exact .inl ⟨i, by simp [h1], h2⟩
        · exact .inr h
    · rcases addA_cases h with ⟨i, h1, h2⟩ | h
      · exact .inl ⟨i, by simp [h1], h2⟩
      · exact .inr h
theorem addA_out : ∀ {al : List (Nat × SBlk)} {s : Nat}, (∀ i b, (i, b) ∈ al → inc i = true → exc i = false → s ≠ n0 + i) → (addA n0 inc exc S al).get s = S.get s
  | [], s, h => rfl
  | (j, c) :: l, s, h => by
    simp only [addA]
    split
    · rename_i hc
      simp at hc
      rw [Tr.get_set, if_neg (h j c (by simp) hc.1 hc.2)]
      exact addA_out (fun i b hm => h i b (by simp [hm]))
    · exact addA_out (fun i b hm => h i b (by simp [hm]))
theorem addA_new : ∀ {new old : List (Nat × SBlk)}, (∀ i b, (i, b) ∈ new → inc i = false) → addA n0 inc exc S (new ++ old) = addA n0 inc exc S old
  | [], _, _ => rfl
  | (j, c) :: l, old, h => by
    simp only [List.cons_append, addA, h j c (by simp), Bool.false_and, Bool.false_eq_true, if_false]
    exact addA_new (fun i b hm => h i b (by simp [hm]))
end
/-- What was written last to a temporary, of the operations in D. -/
noncomputable def lastW (D : Nat → Bool) : Nat → List (Option Tmp × SV) → Nat → Option SV
  | _, [], _ => none
  | i, (d, v) :: l, t => match lastW D (i + 1) l t with
    | some x => some x
    | none => if D i = true ∧ d = some t then some v else none
theorem lastW_congr {D D' : Nat → Bool} {t : Nat} : ∀ {l : List (Option Tmp × SV)} {i : Nat}, (∀ k v, l[k]? = some (some t, v) → D (i + k) = D' (i + k)) → lastW D i l t = lastW D' i l t
  | [], _, _ => rfl
  | (d, v) :: l, i, h => by
    simp only [lastW]
    rw [lastW_congr (D := D) (D' := D') (fun k v hk => by have := h (k + 1) v (by simpa using hk); simpa [Nat.add_assoc, Nat.add_comm 1 k] using this)]
    split
    · rfl
    · by_cases e : d = some t
      · have := h 0 v (by simp [e])
        simp only [Nat.add_zero] at this
        simp [this]
      · simp [e]
theorem lastW_append {D : Nat → Bool} {t : Nat} {d : Option Tmp} {v : SV} : ∀ {l : List (Option Tmp × SV)} {i : Nat}, lastW D i (l ++ [(d, v)]) t = if D (i + l.length) = true ∧ d = some t then some v else lastW D i l t
  | [], i => by simp [lastW]
  | (e, u) :: l, i => by
    simp only [List.cons_append, lastW, lastW_append, List.length_cons]
    rw [show i + 1 + l.length = i + (l.length + 1) by omega]
    split <;> rename_i h <;> split at h <;> simp_all
theorem lastW_pre {D : Nat → Bool} {t : Nat} {r : List (Option Tmp × SV)} : ∀ {l : List (Option Tmp × SV)} {i : Nat}, (∀ k, i + l.length ≤ k → D k = false) → lastW D i (l ++ r) t = lastW D i l t
  | [], i, h => by
    simp only [List.nil_append, lastW]
    have : ∀ (r : List (Option Tmp × SV)) (i : Nat), (∀ k, i ≤ k → D k = false) → lastW D i r t = none := by
      intro r
      induction r with
      | nil => intro i h; rfl
      | cons x r ih =>
        intro i h
        obtain ⟨d, v⟩ := x
        simp only [lastW]
        rw [ih (i + 1) (fun k hk => h k (by omega))]
        simp [h i (Nat.le_refl _)]
    exact this r i (by simpa using h)
  | (e, u) :: l, i, h => by
    simp only [List.cons_append, lastW]
    rw [lastW_pre (fun k hk => h k (by simp only [List.length_cons]; omega))]
/-! #### What comes ahead -/
theorem ancOne_on {acc : List Nat} : ∀ {es : List Edge} {e : Edge}, e ∈ es → Region.binds .any e = true → (ancOne acc es).testBit e.on = true
  | x :: es, e, hm, hb => by
    simp only [ancOne]
    rcases List.mem_cons.1 hm with rfl | hm
    · simp [hb, Nat.testBit_or, Nat.testBit_two_pow_self]
    · have := ancOne_on (acc := acc) hm hb
      split <;> simp [Nat.testBit_or, this]
theorem ancOne_bit {acc : List Nat} {k : Nat} : ∀ {es : List Edge}, (ancOne acc es).testBit k = true → ∃ e ∈ es, Region.binds .any e = true ∧ (k = e.on ∨ ((acc[e.on]?).getD 0).testBit k = true)
  | [], h => by simp [ancOne] at h
  | x :: es, h => by
    simp only [ancOne] at h
    split at h
    · rename_i hb
      simp only [Nat.testBit_or, Bool.or_eq_true] at h
      rcases h with h | h | h
      · refine ⟨x, by simp, hb, .inl ?_⟩
        rw [Nat.testBit_two_pow] at h
        simpa using (of_decide_eq_true h).symm
      · exact ⟨x, by simp, hb, .inr h⟩
      · obtain ⟨e, he, h1, h2⟩ := ancOne_bit h
        exact ⟨e, by simp [he], h1, h2⟩
    · obtain ⟨e, he, h1, h2⟩ := ancOne_bit h
      exact ⟨e, by simp [he], h1, h2⟩
theorem ancs_spec : ∀ (os : List Oper) (acc : List Nat), ∃ r, ancs os acc = acc ++ r ∧ r.length = os.length ∧ ∀ k o, os[k]? = some o → r[k]? = some (ancOne (acc ++ r.take k) o.after.toList)
  | [], acc => ⟨[], by simp [ancs], rfl, fun k o h => by simp at h⟩
  | o :: os, acc => by
    obtain ⟨r, h1, h2, h3⟩ := ancs_spec os (acc ++ [ancOne acc o.after.toList])
    refine ⟨ancOne acc o.after.toList :: r, by rw [ancs, h1]; simp, by simp [h2], fun k o' hk => ?_⟩
    cases k with
    | zero => simp at hk; subst hk; simp
    | succ k =>
      have := h3 k o' (by simpa using hk)
      simpa using this
noncomputable def ancAt (as : List Nat) (i : Nat) : Nat := (as[i]?).getD 0
/-- What is listed is listed with all that comes ahead of it. -/
noncomputable def ClosedL (ops : Array Oper) (L : Nat → Bool) : Prop := ∀ j o, L j = true → ops[j]? = some o → ∀ e ∈ o.after, Region.binds .any e = true → L e.on = true
theorem anc_sub {ops : Array Oper} {L : Nat → Bool} (hL : ClosedL ops L) : ∀ (i : Nat) (o : Oper), ops[i]? = some o → (∀ e ∈ o.after, Region.binds .any e = true → L e.on = true) → ∀ k, (ancAt (ancs ops.toList []) i).testBit k = true → L k = true := by
  obtain ⟨r, h1, h2, h3⟩ := ancs_spec ops.toList []
  intro i
  induction i using Nat.strongRecOn with
  | _ i ih =>
    intro o ho he k hk
    have hr := h3 i o (by simpa using ho)
    simp only [List.nil_append] at hr h1
    unfold ancAt at hk
    rw [h1, hr] at hk
    simp only [Option.getD_some] at hk
    obtain ⟨e, hm, hb, hk⟩ := ancOne_bit hk
    have hon : L e.on = true := he e (by simpa using hm) hb
    rcases hk with rfl | hk
    · exact hon
    · rw [List.getElem?_take] at hk
      split at hk
      · rename_i hlt
        cases ho2 : ops[e.on]? with
        | none =>
          exfalso
          have : r[e.on]? = none := by
            rw [List.getElem?_eq_none_iff]
            have := Array.getElem?_eq_none_iff.1 ho2
            simp at h2; omega
          rw [this] at hk; simp at hk
        | some o2 =>
          refine ih e.on hlt o2 ho2 (fun e2 hm2 hb2 => hL e.on o2 hon ho2 e2 hm2 hb2) k ?_
          unfold ancAt
          rw [h1]; exact hk
      · simp at hk
/-! #### Names -/
theorem namesOk_spec : ∀ {xs old : List (Option Tmp × List Tmp)} {i : Nat} {as : List Nat}, old.length = i → namesOk old i xs as = true →
    ∀ j x, xs[j]? = some x → ∃ anc, as[j]? = some anc ∧ anc < 2 ^ (i + j) ∧ ∀ k y, (old ++ xs)[k]? = some y → k < i + j → clash y x = true → anc.testBit k = true
  | [], old, i, as, hl, h, j, x, hj => by simp at hj
  | y0 :: xs, old, i, [], hl, h, j, x, hj => by simp [namesOk] at h
  | y0 :: xs, old, i, anc :: as, hl, h, j, x, hj => by
    simp only [namesOk, Bool.and_eq_true, decide_eq_true_eq] at h
    obtain ⟨h1, h2, h3⟩ := h
    cases j with
    | zero =>
      simp at hj
      subst hj
      refine ⟨anc, rfl, by simpa using h2, fun k y hk hlt hc => ?_⟩
      have hk' : old[k]? = some y := by rw [List.getElem?_append_left (by omega)] at hk; exact hk
      have := List.all_eq_true.1 h1 (y, k) (List.mem_iff_getElem?.2 ⟨k, by simp [List.getElem?_zipIdx, hk']⟩)
      simpa [hc] using this
    | succ j =>
      obtain ⟨a, g1, g2, g3⟩ := namesOk_spec (old := old ++ [y0]) (by simp [hl]) h3 j x (by simpa using hj)
      refine ⟨a, by simpa using g1, by rw [show i + (j + 1) = i + 1 + j by omega]; exact g2, fun k y hk hlt hc => g3 k y (by simpa using hk) (by omega) hc⟩
noncomputable def swantedV (ops : Array Oper) (f : Nat → SV) (o : Oper) : R Bool :=
  match o.guard with
  | none => .ok true
  | some (j, want) => match (ops[j]?).bind (·.dst) with
    | none => .ok false
    | some d => match f d with
      | .bool b => .ok (b == want)
      | .tup [] => .ok false
      | _ => .no "guard"
theorem swanted_eq (ops : Array Oper) (T : TM) (o : Oper) : swanted ops T o = swantedV ops T.val o := rfl
theorem swantedV_congr {ops : Array Oper} {f g : Nat → SV} {o : Oper} (h : ∀ t ∈ reads ops o, f t = g t) : swantedV ops f o = swantedV ops g o := by
  unfold swantedV
  split
  · rfl
  · rename_i j want hg
    split
    · rfl
    · rename_i d hd
      rw [h d (by simp [reads, hg, hd])]
theorem evalV_congr {C : Ctx} {ops : Array Oper} {f g : Nat → SV} {o : Oper} (h : ∀ t ∈ reads ops o, f t = g t) : ∀ x ∈ o.op.operands, evalV C f x = evalV C g x := by
  intro x hx
  cases x with
  | tmp t =>
    simp only [evalV]
    rw [h t (by
      refine List.mem_append_left _ (List.mem_filterMap.2 ⟨.tmp t, by simpa using hx, rfl⟩))]
  | const v => rfl
  | global g => rfl
  | func f => rfl
end Go.Proofs.YtfiangiajhdhcaaDoor
