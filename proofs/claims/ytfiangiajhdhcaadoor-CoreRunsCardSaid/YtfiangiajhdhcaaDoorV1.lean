/- The reckoner: a symbolic evaluator of a program, proved sound; one of its texts. No condition. -/
import Derived.Lib.ItoaLen
import Derived.IntWalk
import Derived.RangeFuncLeaves
import Derived.OrdersIn
import Derived.LoopNIn
import Derived.Below
namespace Go.Proofs.YtfiangiajhdhcaaDoor
open Go.RowKit
set_option linter.unusedVariables false
set_option maxRecDepth 100000

/-- Numbers that are not known. -/
inductive IE where
  | lit (n : Int)
  | at (i : Nat)
  | bin (op : BinOp) (k : IntKind) (a b : IE)
  | conv (k : IntKind) (a : IE)
/-- Why the reckoner has no answer: a word, or a comparison that is not decided. -/
inductive Why where
  | msg (s : String)
  | ask (op : BinOp) (a b : IE)
instance : Coe String Why := ⟨.msg⟩
/-- The outcome of the reckoner: a value, or why there is none. -/
inductive R (α : Type) where
  | ok (a : α)
  | no (why : Why)
noncomputable def R.bind {α β : Type} (x : R α) (f : α → R β) : R β := R.rec (motive := fun _ => R β) (fun a => f a) (fun s => .no s) x
noncomputable def need (b : Bool) (why : String) : R Unit := if b then .ok () else .no why
noncomputable def ofOpt {α : Type} (o : Option α) (why : String) : R α := match o with | some a => .ok a | none => .no why
theorem R.bind_ok {α β : Type} {x : R α} {f : α → R β} {b : β} : x.bind f = .ok b ↔ ∃ a, x = .ok a ∧ f a = .ok b := by
  cases x <;> simp [R.bind]
theorem need_ok {b : Bool} {s : String} {u : Unit} : need b s = .ok u ↔ b = true := by
  cases b <;> simp [need]
theorem ofOpt_ok {α : Type} {o : Option α} {s : String} {a : α} : ofOpt o s = .ok a ↔ o = some a := by
  cases o <;> simp [ofOpt]
noncomputable def mapR {α β : Type} (f : α → R β) : List α → R (List β)
  | [] => .ok []
  | a :: l => (f a).bind fun b => (mapR f l).bind fun bs => .ok (b :: bs)

/-! ### A map whose keys are numbers -/
inductive Tr (α : Type) where
  | nil
  | node (v : Option α) (l r : Tr α)
namespace Tr
variable {α : Type}
noncomputable def getF (f : Nat) (t : Tr α) (k : Nat) : Option α :=
  Nat.rec (motive := fun _ => Tr α → Nat → Option α) (fun _ _ => none) (fun _ ih t k => Tr.rec (motive := fun _ => Option α) none (fun v l r _ _ => Nat.rec (motive := fun _ => Option α) v (fun m _ => Bool.rec (motive := fun _ => Option α) (ih r (m / 2)) (ih l (m / 2)) (Nat.beq (m % 2) 0)) k) t) f t k
noncomputable def putF (f : Nat) (t : Tr α) (k : Nat) (x : Option α) : Tr α :=
  Nat.rec (motive := fun _ => Tr α → Nat → Tr α) (fun t _ => t) (fun _ ih t k => Tr.rec (motive := fun _ => Tr α)
    (Nat.rec (motive := fun _ => Tr α) (.node x .nil .nil) (fun m _ => Bool.rec (motive := fun _ => Tr α) (.node none .nil (ih .nil (m / 2))) (.node none (ih .nil (m / 2)) .nil) (Nat.beq (m % 2) 0)) k)
    (fun v l r _ _ => Nat.rec (motive := fun _ => Tr α) (.node x l r) (fun m _ => Bool.rec (motive := fun _ => Tr α) (.node v l (ih r (m / 2))) (.node v (ih l (m / 2)) r) (Nat.beq (m % 2) 0)) k) t) f t k
theorem getF_0 (t : Tr α) (k : Nat) : getF 0 t k = none := rfl
theorem getF_n (f : Nat) (k : Nat) : getF (f + 1) (.nil : Tr α) k = none := rfl
theorem getF_z (f : Nat) (v : Option α) (l r : Tr α) : getF (f + 1) (.node v l r) 0 = v := rfl
theorem beq_if {β : Type} (m : Nat) (a b : β) : (Bool.rec (motive := fun _ => β) b a (Nat.beq (m % 2) 0) : β) = if m % 2 = 0 then a else b := by
  by_cases h : m % 2 = 0
  · rw [if_pos h, h]; rfl
  · rw [if_neg h]
    have : Nat.beq (m % 2) 0 = false := by
      cases e : Nat.beq (m % 2) 0
      · rfl
      · exact absurd (Nat.eq_of_beq_eq_true e) h
    rw [this]
theorem getF_s (f : Nat) (v : Option α) (l r : Tr α) (m : Nat) : getF (f + 1) (.node v l r) (m + 1) = if m % 2 = 0 then getF f l (m / 2) else getF f r (m / 2) := beq_if m _ _
theorem putF_0 (t : Tr α) (k : Nat) (x : Option α) : putF 0 t k x = t := rfl
theorem putF_nz (f : Nat) (x : Option α) : putF (f + 1) .nil 0 x = .node x .nil .nil := rfl
theorem putF_ns (f m : Nat) (x : Option α) : putF (f + 1) .nil (m + 1) x = if m % 2 = 0 then .node none (putF f .nil (m / 2) x) .nil else .node none .nil (putF f .nil (m / 2) x) := beq_if m _ _
theorem putF_z (f : Nat) (v : Option α) (l r : Tr α) (x : Option α) : putF (f + 1) (.node v l r) 0 x = .node x l r := rfl
theorem putF_s (f : Nat) (v : Option α) (l r : Tr α) (m : Nat) (x : Option α) : putF (f + 1) (.node v l r) (m + 1) x = if m % 2 = 0 then .node v (putF f l (m / 2) x) r else .node v l (putF f r (m / 2) x) := beq_if m _ _
noncomputable def get (t : Tr α) (k : Nat) : Option α := getF (k + 1) t k
noncomputable def put (t : Tr α) (k : Nat) (x : Option α) : Tr α := putF (k + 1) t k x
noncomputable def set (t : Tr α) (k : Nat) (x : α) : Tr α := t.put k (some x)
noncomputable def del (t : Tr α) (k : Nat) : Tr α := t.put k none
theorem getF_more : ∀ (f g : Nat) (t : Tr α) (k : Nat), k < f → k < g → getF f t k = getF g t k := by
  intro f
  induction f with
  | zero => intro g t k h; omega
  | succ f ih =>
    intro g t k hf hg
    cases g with
    | zero => omega
    | succ g =>
      cases t with
      | nil => rfl
      | node v l r =>
        cases k with
        | zero => rfl
        | succ m =>
          simp only [getF_s]
          split
          · exact ih g l (m / 2) (by omega) (by omega)
          · exact ih g r (m / 2) (by omega) (by omega)
theorem getF_nil (f k : Nat) : getF f (.nil : Tr α) k = none := by cases f <;> rfl
theorem getF_putF : ∀ (f : Nat) (t : Tr α) (k j : Nat) (x : Option α), k < f → j < f → getF f (putF f t k x) j = if j = k then x else getF f t j := by
  intro f
  induction f with
  | zero => intro t k j x h; omega
  | succ f ih =>
    intro t k j x hk hj
    cases t with
    | nil =>
      cases k with
      | zero =>
        cases j with
        | zero => simp [putF_nz, getF_z]
        | succ j => simp [putF_nz, getF_n, getF_s, getF_nil]
      | succ m =>
        by_cases hm : m % 2 = 0
        · cases j with
          | zero => simp [putF_ns, getF_n, getF_z, hm]
          | succ j =>
            by_cases hj2 : j % 2 = 0
            · simp only [putF_ns, hm, if_true, getF_n, getF_s, hj2, ih .nil (m / 2) (j / 2) x (by omega) (by omega), getF_nil]
              by_cases e : j = m
              · subst e; simp
              · have : j / 2 ≠ m / 2 := by omega
                simp [e, this]
            · have : j ≠ m := by rintro rfl; exact hj2 hm
              simp [putF_ns, hm, getF_n, getF_s, hj2, getF_nil, this]
        · cases j with
          | zero => simp [putF_ns, getF_n, getF_z, hm]
          | succ j =>
            by_cases hj2 : j % 2 = 0
            · have : j ≠ m := by rintro rfl; exact hm hj2
              simp [putF_ns, hm, getF_n, getF_s, hj2, getF_nil, this]
            · simp only [putF_ns, hm, if_false, getF_n, getF_s, hj2, ih .nil (m / 2) (j / 2) x (by omega) (by omega), getF_nil]
              by_cases e : j = m
              · subst e; simp
              · have : j / 2 ≠ m / 2 := by omega
                simp [e, this]
    | node v l r =>
      cases k with
      | zero =>
        cases j with
        | zero => simp [putF_z, getF_z]
        | succ j => simp [putF_z, getF_s]
      | succ m =>
        by_cases hm : m % 2 = 0
        · cases j with
          | zero => simp [putF_s, getF_z, hm]
          | succ j =>
            by_cases hj2 : j % 2 = 0
            · simp only [putF_s, hm, if_true, getF_s, hj2, ih l (m / 2) (j / 2) x (by omega) (by omega)]
              by_cases e : j = m
              · subst e; simp
              · have : j / 2 ≠ m / 2 := by omega
                simp [e, this]
            · have : j ≠ m := by rintro rfl; exact hj2 hm
              simp [putF_s, hm, getF_s, hj2, this]
        · cases j with
          | zero => simp [putF_s, getF_z, hm]
          | succ j =>
            by_cases hj2 : j % 2 = 0
            · have : j ≠ m := by rintro rfl; exact hm hj2
              simp [putF_s, hm, getF_s, hj2, this]
            · simp only [putF_s, hm, if_false, getF_s, hj2, ih r (m / 2) (j / 2) x (by omega) (by omega)]
              by_cases e : j = m
              · subst e; simp
              · have : j / 2 ≠ m / 2 := by omega
                simp [e, this]
theorem putF_more : ∀ (f g : Nat) (t : Tr α) (k : Nat) (x : Option α), k < f → k < g → putF f t k x = putF g t k x := by
  intro f
  induction f with
  | zero => intro g t k x h; omega
  | succ f ih =>
    intro g t k x hf hg
    cases g with
    | zero => omega
    | succ g =>
      cases t with
      | nil =>
        cases k with
        | zero => rfl
        | succ m =>
          simp only [putF_ns]
          rw [ih g .nil (m / 2) x (by omega) (by omega)]
      | node v l r =>
        cases k with
        | zero => rfl
        | succ m =>
          simp only [putF_s]
          rw [ih g l (m / 2) x (by omega) (by omega), ih g r (m / 2) x (by omega) (by omega)]
theorem get_put (t : Tr α) (k j : Nat) (x : Option α) : (t.put k x).get j = if j = k then x else t.get j := by
  unfold get put
  rw [putF_more (k + 1) (k + j + 1) t k x (by omega) (by omega), getF_more (j + 1) (k + j + 1) _ j (by omega) (by omega), getF_putF _ _ _ _ _ (by omega) (by omega),
    getF_more (j + 1) (k + j + 1) t j (by omega) (by omega)]
theorem get_set (t : Tr α) (k j : Nat) (x : α) : (t.set k x).get j = if j = k then some x else t.get j := get_put t k j _
theorem get_del (t : Tr α) (k j : Nat) : (t.del k).get j = if j = k then none else t.get j := get_put t k j _
theorem get_nil (j : Nat) : (Tr.nil : Tr α).get j = none := rfl
end Tr

/-! ### Numbers that are not known, and what is known of them -/
noncomputable def IE.beq : IE → IE → Bool
  | .lit a, .lit b => a == b
  | .at i, .at j => i == j
  | .bin o k a b, .bin p l c d => decide (o = p) && (decide (k = l) && (IE.beq a c && IE.beq b d))
  | .conv k a, .conv l b => decide (k = l) && IE.beq a b
  | _, _ => false
theorem IE.eq_of_beq : ∀ {a b : IE}, IE.beq a b = true → a = b
  | .lit _, .lit _, h => by simp [IE.beq] at h; rw [h]
  | .at _, .at _, h => by simp [IE.beq] at h; rw [h]
  | .bin .., .bin .., h => by
    simp [IE.beq] at h
    obtain ⟨rfl, rfl, h1, h2⟩ := h
    rw [IE.eq_of_beq h1, IE.eq_of_beq h2]
  | .conv .., .conv .., h => by
    simp [IE.beq] at h
    obtain ⟨rfl, h1⟩ := h
    rw [IE.eq_of_beq h1]
  | .lit _, .at _, h => by simp [IE.beq] at h
  | .lit _, .bin .., h => by simp [IE.beq] at h
  | .lit _, .conv .., h => by simp [IE.beq] at h
  | .at _, .lit _, h => by simp [IE.beq] at h
  | .at _, .bin .., h => by simp [IE.beq] at h
  | .at _, .conv .., h => by simp [IE.beq] at h
  | .bin .., .lit _, h => by simp [IE.beq] at h
  | .bin .., .at _, h => by simp [IE.beq] at h
  | .bin .., .conv .., h => by simp [IE.beq] at h
  | .conv .., .lit _, h => by simp [IE.beq] at h
  | .conv .., .at _, h => by simp [IE.beq] at h
  | .conv .., .bin .., h => by simp [IE.beq] at h
/-- Sums and the like, as the model has them. -/
noncomputable def arith (op : BinOp) (k : IntKind) (x y : Int) : Int :=
  match op with
  | .add => k.wrap (x + y)
  | .sub => k.wrap (x - y)
  | .mul => k.wrap (x * y)
  | .quo => k.wrap (x.tdiv y)
  | .rem => x.tmod y
  | _ => 0
noncomputable def cmpD (op : BinOp) (x y : Int) : Bool :=
  match op with
  | .eql => x == y
  | .neq => x != y
  | .lss => decide (x < y)
  | .leq => decide (x ≤ y)
  | .gtr => decide (x > y)
  | _ => decide (x ≥ y)
noncomputable def IE.den (I : Nat → Int) : IE → Int
  | .lit n => n
  | .at i => I i
  | .bin op k a b => arith op k (a.den I) (b.den I)
  | .conv k a => k.wrap (a.den I)

/-- What is known: sides of comparisons, and which number a sum is. -/
structure Asm where
  cmps : List (BinOp × IE × IE × Bool) := []
  eqs : List (IE × IE) := []
noncomputable def Asm.findC (op : BinOp) (a b : IE) : List (BinOp × IE × IE × Bool) → Option Bool
  | [] => none
  | (o, x, y, r) :: l => if decide (o = op) && (x.beq a && y.beq b) then some r else Asm.findC op a b l
noncomputable def Asm.findE (a : IE) : List (IE × IE) → IE
  | [] => a
  | (x, y) :: l => if x.beq a then y else Asm.findE a l
structure Asm.Holds (A : Asm) (I : Nat → Int) : Prop where
  cmps : ∀ o x y r, (o, x, y, r) ∈ A.cmps → cmpD o (x.den I) (y.den I) = r
  eqs : ∀ x y, (x, y) ∈ A.eqs → x.den I = y.den I
theorem Asm.findC_ok {I : Nat → Int} {op : BinOp} {a b : IE} {r : Bool} : ∀ {l : List (BinOp × IE × IE × Bool)}, (∀ o x y r, (o, x, y, r) ∈ l → cmpD o (x.den I) (y.den I) = r) →
    Asm.findC op a b l = some r → cmpD op (a.den I) (b.den I) = r
  | [], _, h => by simp [Asm.findC] at h
  | (o, x, y, s) :: l, hl, h => by
    simp only [Asm.findC] at h
    split at h
    · rename_i hc
      simp only [Bool.and_eq_true, decide_eq_true_eq] at hc
      obtain ⟨rfl, h1, h2⟩ := hc
      injection h with h
      rw [← IE.eq_of_beq h1, ← IE.eq_of_beq h2, ← h]
      exact hl _ _ _ _ (by simp)
    · exact Asm.findC_ok (fun o x y r hm => hl o x y r (by simp [hm])) h
theorem Asm.findE_ok {I : Nat → Int} {a : IE} : ∀ {l : List (IE × IE)}, (∀ x y, (x, y) ∈ l → x.den I = y.den I) → (Asm.findE a l).den I = a.den I
  | [], _ => rfl
  | (x, y) :: l, hl => by
    simp only [Asm.findE]
    split
    · rename_i h
      rw [← IE.eq_of_beq h]
      exact (hl x y (by simp)).symm
    · exact Asm.findE_ok (fun x y hm => hl x y (by simp [hm]))
/-- Bounds of a number, as far as they are known. -/
structure Ivl where
  lo : Option Int
  hi : Option Int
noncomputable def Ivl.low (v : Ivl) (n : Int) : Ivl := { v with lo := match v.lo with | some m => some (max m n) | none => some n }
noncomputable def Ivl.high (v : Ivl) (n : Int) : Ivl := { v with hi := match v.hi with | some m => some (min m n) | none => some n }
noncomputable def Ivl.cut (v : Ivl) (n : Int) : Ivl := { lo := match v.lo with | some m => if m = n then some (n + 1) else some m | none => none, hi := match v.hi with | some m => if m = n then some (n - 1) else some m | none => none }
noncomputable def Ivl.fact (v : Ivl) (op : BinOp) (n : Int) (r : Bool) : Ivl :=
  match op, r with
  | .eql, true => (v.low n).high n
  | .neq, false => (v.low n).high n
  | .lss, true => v.high (n - 1)
  | .lss, false => v.low n
  | .leq, true => v.high n
  | .leq, false => v.low (n + 1)
  | .gtr, true => v.low (n + 1)
  | .gtr, false => v.high n
  | .geq, true => v.low n
  | .geq, false => v.high (n - 1)
  | .eql, false => v.cut n
  | .neq, true => v.cut n
  | _, _ => v
noncomputable def Ivl.of (e : IE) (v : Ivl) : List (BinOp × IE × IE × Bool) → Ivl
  | [] => v
  | (op, x, .lit n, r) :: l => if x.beq e then (Ivl.of e v l).fact op n r else Ivl.of e v l
  | _ :: l => Ivl.of e v l
noncomputable def Ivl.ofIE (e : IE) (l : List (BinOp × IE × IE × Bool)) : Ivl :=
  match e with
  | .lit n => ⟨some n, some n⟩
  | e => Ivl.of e (Ivl.of e ⟨none, none⟩ l) l
noncomputable def Ivl.Holds (v : Ivl) (x : Int) : Prop := (∀ m, v.lo = some m → m ≤ x) ∧ (∀ m, v.hi = some m → x ≤ m)
theorem Ivl.low_ok {v : Ivl} {x n : Int} (h : v.Holds x) (hn : n ≤ x) : (v.low n).Holds x := by
  refine ⟨fun m hm => ?_, h.2⟩
  simp only [Ivl.low] at hm
  split at hm
  · rename_i k hk; injection hm with hm; have := h.1 k hk; omega
  · injection hm with hm; omega
theorem Ivl.high_ok {v : Ivl} {x n : Int} (h : v.Holds x) (hn : x ≤ n) : (v.high n).Holds x := by
  refine ⟨h.1, fun m hm => ?_⟩
  simp only [Ivl.high] at hm
  split at hm
  · rename_i k hk; injection hm with hm; have := h.2 k hk; omega
  · injection hm with hm; omega
theorem Ivl.cut_ok {v : Ivl} {x n : Int} (h : v.Holds x) (hn : x ≠ n) : (v.cut n).Holds x := by
  refine ⟨fun m hm => ?_, fun m hm => ?_⟩
  · simp only [Ivl.cut] at hm
    split at hm
    · rename_i k hk
      have := h.1 k hk
      split at hm <;> (injection hm with hm; omega)
    · cases hm
  · simp only [Ivl.cut] at hm
    split at hm
    · rename_i k hk
      have := h.2 k hk
      split at hm <;> (injection hm with hm; omega)
    · cases hm
theorem Ivl.fact_ok {v : Ivl} {x n : Int} {op : BinOp} {r : Bool} (h : v.Holds x) (hc : cmpD op x n = r) : (v.fact op n r).Holds x := by
  unfold Ivl.fact
  split <;> simp only [cmpD, beq_iff_eq, bne_eq_false_iff_eq, decide_eq_true_eq, decide_eq_false_iff_not, beq_eq_false_iff_ne, bne_iff_ne] at hc
  · exact Ivl.high_ok (Ivl.low_ok h (by omega)) (by omega)
  · exact Ivl.high_ok (Ivl.low_ok h (by omega)) (by omega)
  · exact Ivl.high_ok h (by omega)
  · exact Ivl.low_ok h (by omega)
  · exact Ivl.high_ok h (by omega)
  · exact Ivl.low_ok h (by omega)
  · exact Ivl.low_ok h (by omega)
  · exact Ivl.high_ok h (by omega)
  · exact Ivl.low_ok h (by omega)
  · exact Ivl.high_ok h (by omega)
  · exact Ivl.cut_ok h hc
  · exact Ivl.cut_ok h hc
  · exact h
theorem Ivl.of_ok {I : Nat → Int} {e : IE} {v : Ivl} (hv : v.Holds (e.den I)) : ∀ {l : List (BinOp × IE × IE × Bool)}, (∀ o x y r, (o, x, y, r) ∈ l → cmpD o (x.den I) (y.den I) = r) → (Ivl.of e v l).Holds (e.den I)
  | [], _ => hv
  | (o, x, .lit n, r) :: l, hl => by
    have ih := Ivl.of_ok hv (l := l) (fun o x y r hm => hl o x y r (by simp [hm]))
    simp only [Ivl.of]
    split
    · rename_i hb
      have := hl o x (.lit n) r (by simp)
      rw [IE.eq_of_beq hb] at this
      exact Ivl.fact_ok ih this
    · exact ih
  | (o, x, .at i, r) :: l, hl => by simp only [Ivl.of]; exact Ivl.of_ok hv (fun o x y r hm => hl o x y r (by simp [hm]))
  | (o, x, .bin .., r) :: l, hl => by simp only [Ivl.of]; exact Ivl.of_ok hv (fun o x y r hm => hl o x y r (by simp [hm]))
  | (o, x, .conv .., r) :: l, hl => by simp only [Ivl.of]; exact Ivl.of_ok hv (fun o x y r hm => hl o x y r (by simp [hm]))
theorem Ivl.ofIE_ok {I : Nat → Int} {e : IE} {l : List (BinOp × IE × IE × Bool)} (hl : ∀ o x y r, (o, x, y, r) ∈ l → cmpD o (x.den I) (y.den I) = r) : (Ivl.ofIE e l).Holds (e.den I) := by
  unfold Ivl.ofIE
  split
  · exact ⟨fun m h => by injection h with h; simp only [IE.den]; omega, fun m h => by injection h with h; simp only [IE.den]; omega⟩
  · exact Ivl.of_ok (Ivl.of_ok ⟨fun m h => (by cases h), fun m h => (by cases h)⟩ hl) hl
/-- Is the one below the other (strict: truly), for all that is known? -/
noncomputable def Ivl.below (strict : Bool) (v u : Ivl) : Bool :=
  match v.hi, u.lo with
  | some m, some n => if strict then decide (m < n) else decide (m ≤ n)
  | _, _ => false
theorem Ivl.below_ok {v u : Ivl} {x y : Int} (hv : v.Holds x) (hu : u.Holds y) : (Ivl.below true v u = true → x < y) ∧ (Ivl.below false v u = true → x ≤ y) := by
  unfold Ivl.below
  split
  · rename_i m n hm hn
    have h1 := hv.2 m hm
    have h2 := hu.1 n hn
    constructor
    · intro h; simp at h; omega
    · intro h; simp at h; omega
  · exact ⟨fun h => by simp at h, fun h => by simp at h⟩
noncomputable def Ivl.decide (op : BinOp) (v u : Ivl) : Option Bool :=
  match op with
  | .eql => if Ivl.below true v u || Ivl.below true u v then some false else if Ivl.below false v u && Ivl.below false u v then some true else none
  | .neq => if Ivl.below true v u || Ivl.below true u v then some true else if Ivl.below false v u && Ivl.below false u v then some false else none
  | .lss => if Ivl.below true v u then some true else if Ivl.below false u v then some false else none
  | .leq => if Ivl.below false v u then some true else if Ivl.below true u v then some false else none
  | .gtr => if Ivl.below true u v then some true else if Ivl.below false v u then some false else none
  | .geq => if Ivl.below false u v then some true else if Ivl.below true v u then some false else none
  | _ => none
theorem Ivl.decide_ok {op : BinOp} {v u : Ivl} {x y : Int} {r : Bool} (hv : v.Holds x) (hu : u.Holds y) (h : Ivl.decide op v u = some r) : cmpD op x y = r := by
  obtain ⟨a1, a2⟩ := Ivl.below_ok hv hu
  obtain ⟨b1, b2⟩ := Ivl.below_ok hu hv
  unfold Ivl.decide at h
  split at h <;> first | cases h | skip
  all_goals
    split at h
    · rename_i hc
      cases h
      try simp only [Bool.or_eq_true] at hc
      first
        | (rcases hc with hc | hc
           · have := a1 hc; simp [cmpD]; omega
           · have := b1 hc; simp [cmpD]; omega)
        | (have := a1 hc; simp [cmpD]; omega)
        | (have := a2 hc; simp [cmpD]; omega)
        | (have := b1 hc; simp [cmpD]; omega)
        | (have := b2 hc; simp [cmpD]; omega)
    · split at h
      · rename_i hc
        cases h
        try simp only [Bool.and_eq_true] at hc
        first
          | (have := a2 hc.1; have := b2 hc.2; simp [cmpD]; omega)
          | (have := a1 hc; simp [cmpD]; omega)
          | (have := a2 hc; simp [cmpD]; omega)
          | (have := b1 hc; simp [cmpD]; omega)
          | (have := b2 hc; simp [cmpD]; omega)
      · cases h
/-! ### Bounds of sums, and what follows from one fact -/
noncomputable def Ivl.meet (v u : Ivl) : Ivl :=
  { lo := match v.lo, u.lo with | some a, some b => some (max a b) | some a, none => some a | none, x => x,
    hi := match v.hi, u.hi with | some a, some b => some (min a b) | some a, none => some a | none, x => x }
theorem Ivl.meet_ok {v u : Ivl} {x : Int} (h : v.Holds x) (k : u.Holds x) : (v.meet u).Holds x := by
  obtain ⟨vl, vh⟩ := v
  obtain ⟨ul, uh⟩ := u
  obtain ⟨h1, h2⟩ := h
  obtain ⟨k1, k2⟩ := k
  refine ⟨fun m hm => ?_, fun m hm => ?_⟩
  · simp only [Ivl.meet] at hm
    cases vl <;> cases ul <;> simp only [Option.some.injEq, reduceCtorEq] at hm
    · subst hm; exact k1 _ rfl
    · subst hm; exact h1 _ rfl
    · subst hm; have := h1 _ rfl; have := k1 _ rfl; omega
  · simp only [Ivl.meet] at hm
    cases vh <;> cases uh <;> simp only [Option.some.injEq, reduceCtorEq] at hm
    · subst hm; exact k2 _ rfl
    · subst hm; exact h2 _ rfl
    · subst hm; have := h2 _ rfl; have := k2 _ rfl; omega
noncomputable def inK (k : IntKind) (m n : Int) : Bool := decide (k.min ≤ m) && decide (n ≤ k.max)
theorem wrap_in {k : IntKind} {x m n : Int} (h : inK k m n = true) (h1 : m ≤ x) (h2 : x ≤ n) : k.wrap x = x := by
  simp only [inK, Bool.and_eq_true, decide_eq_true_eq] at h
  have a := Int.le_trans h.1 h1
  have b := Int.le_trans h2 h.2
  cases k <;> simp only [IntKind.min, IntKind.max, IntKind.signed, IntKind.bits, if_true, Bool.false_eq_true, if_false] at a b
  · exact IntWalk.i8_in _ (by omega)
  · exact IntWalk.i16_in _ (by omega)
  · exact IntWalk.i32_in _ (by omega)
  · exact IntWalk.i64_in _ (by omega)
  · exact IntWalk.u8_in _ (by omega)
  · exact IntWalk.u16_in _ (by omega)
  · exact IntWalk.u32_in _ (by omega)
  · exact IntWalk.u64_in _ (by omega)
noncomputable def Ivl.top : Ivl := ⟨none, none⟩
theorem Ivl.top_ok (x : Int) : Ivl.top.Holds x := ⟨fun m h => (by cases h), fun m h => (by cases h)⟩
theorem Ivl.mk_ok {m n x : Int} (h1 : m ≤ x) (h2 : x ≤ n) : (Ivl.mk (some m) (some n)).Holds x := ⟨fun _ h => by injection h with h; omega, fun _ h => by injection h with h; omega⟩
noncomputable def ivlBin (op : BinOp) (k : IntKind) (v u : Ivl) : Ivl :=
  match v, u with
  | ⟨some a, some b⟩, ⟨some c, some d⟩ => match op with
    | .add => if inK k (a + c) (b + d) then ⟨some (a + c), some (b + d)⟩ else .top
    | .sub => if inK k (a - d) (b - c) then ⟨some (a - d), some (b - c)⟩ else .top
    | .mul => if c = d ∧ 0 ≤ c then (if inK k (a * c) (b * c) then ⟨some (a * c), some (b * c)⟩ else .top) else .top
    | .quo => if c = d ∧ 0 < c then (if inK k (a.tdiv c) (b.tdiv c) then ⟨some (a.tdiv c), some (b.tdiv c)⟩ else .top) else .top
    | .rem => if c = d ∧ 0 < c then (if 0 ≤ a then ⟨some 0, some (min b (c - 1))⟩ else if b ≤ 0 then ⟨some (max a (-(c - 1))), some 0⟩ else ⟨some (-(c - 1)), some (c - 1)⟩) else .top
    | _ => .top
  | _, _ => .top
theorem tdiv_neg' {x c : Int} (hx : ¬ 0 ≤ x) : x.tdiv c = -((-x) / c) := by
  have h := Int.neg_tdiv (-x) c
  rw [Int.neg_neg] at h
  rw [h, Int.tdiv_eq_ediv_of_nonneg (by omega)]
theorem tmod_neg' {x c : Int} (hx : x ≤ 0) : x.tmod c = -((-x) % c) := by
  have h := Int.neg_tmod (-x) c
  rw [Int.neg_neg] at h
  rw [h, Int.tmod_eq_emod_of_nonneg (by omega)]
theorem tdiv_mono {x y c : Int} (hc : 0 < c) (h : x ≤ y) : x.tdiv c ≤ y.tdiv c := by
  by_cases hx : 0 ≤ x
  · rw [Int.tdiv_eq_ediv_of_nonneg hx, Int.tdiv_eq_ediv_of_nonneg (by omega)]
    exact Int.ediv_le_ediv hc h
  · rw [tdiv_neg' hx]
    have h0 : 0 ≤ (-x) / c := Int.ediv_nonneg (by omega) (by omega)
    by_cases hy : 0 ≤ y
    · have : 0 ≤ y.tdiv c := by rw [Int.tdiv_eq_ediv_of_nonneg hy]; exact Int.ediv_nonneg hy (by omega)
      omega
    · rw [tdiv_neg' hy]
      have := Int.ediv_le_ediv hc (show -y ≤ -x by omega)
      omega
theorem ivlBin_ok {op : BinOp} {k : IntKind} {v u : Ivl} {x y : Int} (hv : v.Holds x) (hu : u.Holds y) : (ivlBin op k v u).Holds (arith op k x y) := by
  unfold ivlBin
  split
  · rename_i a b c d
    have h1 := hv.1 a rfl
    have h2 := hv.2 b rfl
    have h3 := hu.1 c rfl
    have h4 := hu.2 d rfl
    split
    · split
      · rename_i hk
        simp only [arith, wrap_in hk (show a + c ≤ x + y by omega) (by omega)]
        exact Ivl.mk_ok (by omega) (by omega)
      · exact Ivl.top_ok _
    · split
      · rename_i hk
        simp only [arith, wrap_in hk (show a - d ≤ x - y by omega) (by omega)]
        exact Ivl.mk_ok (by omega) (by omega)
      · exact Ivl.top_ok _
    · split
      · rename_i hc
        obtain ⟨rfl, hc⟩ := hc
        obtain rfl : y = c := by omega
        split
        · rename_i hk
          have e1 : a * y ≤ x * y := Int.mul_le_mul_of_nonneg_right h1 hc
          have e2 : x * y ≤ b * y := Int.mul_le_mul_of_nonneg_right h2 hc
          simp only [arith, wrap_in hk e1 e2]
          exact Ivl.mk_ok e1 e2
        · exact Ivl.top_ok _
      · exact Ivl.top_ok _
    · split
      · rename_i hc
        obtain ⟨rfl, hc⟩ := hc
        obtain rfl : y = c := by omega
        split
        · rename_i hk
          have e1 := tdiv_mono hc h1
          have e2 := tdiv_mono hc h2
          simp only [arith, wrap_in hk e1 e2]
          exact Ivl.mk_ok e1 e2
        · exact Ivl.top_ok _
      · exact Ivl.top_ok _
    · split
      · rename_i hc
        obtain ⟨rfl, hc⟩ := hc
        obtain rfl : y = c := by omega
        simp only [arith]
        split
        · rename_i ha
          rw [Int.tmod_eq_emod_of_nonneg (by omega)]
          have := Int.emod_nonneg x (show y ≠ 0 by omega)
          have := Int.emod_lt_of_pos x hc
          have := Int.mul_ediv_add_emod x y
          have : 0 ≤ x / y := Int.ediv_nonneg (by omega) (by omega)
          have : 0 ≤ y * (x / y) := Int.mul_nonneg (by omega) this
          exact Ivl.mk_ok (by omega) (by omega)
        · split
          · rename_i hb
            rw [tmod_neg' (c := y) (show x ≤ 0 by omega)]
            have := Int.emod_nonneg (-x) (show y ≠ 0 by omega)
            have := Int.emod_lt_of_pos (-x) hc
            have := Int.mul_ediv_add_emod (-x) y
            have : 0 ≤ (-x) / y := Int.ediv_nonneg (by omega) (by omega)
            have : 0 ≤ y * ((-x) / y) := Int.mul_nonneg (by omega) this
            exact Ivl.mk_ok (by omega) (by omega)
          · have e1 : -(y - 1) ≤ x.tmod y ∧ x.tmod y ≤ y - 1 := by
              by_cases hx : 0 ≤ x
              · rw [Int.tmod_eq_emod_of_nonneg hx]
                have := Int.emod_nonneg x (show y ≠ 0 by omega)
                have := Int.emod_lt_of_pos x hc
                omega
              · rw [tmod_neg' (c := y) (show x ≤ 0 by omega)]
                have := Int.emod_nonneg (-x) (show y ≠ 0 by omega)
                have := Int.emod_lt_of_pos (-x) hc
                omega
            exact Ivl.mk_ok e1.1 e1.2
      · exact Ivl.top_ok _
    · exact Ivl.top_ok _
  · exact Ivl.top_ok _
noncomputable def ivlConv (k : IntKind) (v : Ivl) : Ivl :=
  match v with
  | ⟨some a, some b⟩ => if inK k a b then ⟨some a, some b⟩ else .top
  | _ => .top
theorem ivlConv_ok {k : IntKind} {v : Ivl} {x : Int} (h : v.Holds x) : (ivlConv k v).Holds (k.wrap x) := by
  unfold ivlConv
  split
  · rename_i a b
    have h1 := h.1 a rfl
    have h2 := h.2 b rfl
    split
    · rename_i hk
      rw [wrap_in hk h1 h2]
      exact Ivl.mk_ok h1 h2
    · exact Ivl.top_ok _
  · exact Ivl.top_ok _
/-- Bounds of a number, through its parts. -/
noncomputable def ivlE (A : Asm) : IE → Ivl
  | .lit n => ⟨some n, some n⟩
  | .at i => Ivl.ofIE (.at i) A.cmps
  | .bin op k a b => Ivl.meet (Ivl.ofIE (.bin op k a b) A.cmps) (ivlBin op k (ivlE A a) (ivlE A b))
  | .conv k a => Ivl.meet (Ivl.ofIE (.conv k a) A.cmps) (ivlConv k (ivlE A a))
theorem ivlE_ok {A : Asm} {I : Nat → Int} (hA : A.Holds I) : ∀ (e : IE), (ivlE A e).Holds (e.den I)
  | .lit n => Ivl.mk_ok (Int.le_refl _) (Int.le_refl _)
  | .at i => Ivl.ofIE_ok hA.cmps
  | .bin op k a b => Ivl.meet_ok (Ivl.ofIE_ok hA.cmps) (ivlBin_ok (ivlE_ok hA a) (ivlE_ok hA b))
  | .conv k a => Ivl.meet_ok (Ivl.ofIE_ok hA.cmps) (ivlConv_ok (ivlE_ok hA a))
/-- A sum of numbers that are not known, each so many times, and a number. -/
structure LF where
  c : Int
  l : List (IE × Int)
noncomputable def sumL (I : Nat → Int) : List (IE × Int) → Int
  | [] => 0
  | (e, s) :: l => s * e.den I + sumL I l
noncomputable def LF.den (I : Nat → Int) (f : LF) : Int := f.c + sumL I f.l
noncomputable def addT (e : IE) (s : Int) : List (IE × Int) → List (IE × Int)
  | [] => [(e, s)]
  | (x, d) :: l => if x.beq e then (if d + s = 0 then l else (x, d + s) :: l) else (x, d) :: addT e s l
theorem addT_ok (I : Nat → Int) (e : IE) (s : Int) : ∀ (l : List (IE × Int)), sumL I (addT e s l) = s * e.den I + sumL I l
  | [] => rfl
  | (x, d) :: l => by
    simp only [addT]
    split
    · rename_i h
      have := IE.eq_of_beq h
      subst this
      split
      · rename_i h0
        simp only [sumL]
        have : d * x.den I + s * x.den I = 0 := by rw [← Int.add_mul, h0, Int.zero_mul]
        omega
      · simp only [sumL, Int.add_mul]; omega
    · simp only [sumL, addT_ok I e s l]; omega
noncomputable def addL (s : Int) : List (IE × Int) → List (IE × Int) → List (IE × Int)
  | [], m => m
  | (e, c) :: l, m => addT e (s * c) (addL s l m)
theorem addL_ok (I : Nat → Int) (s : Int) (m : List (IE × Int)) : ∀ (l : List (IE × Int)), sumL I (addL s l m) = s * sumL I l + sumL I m
  | [] => by simp [addL, sumL]
  | (e, c) :: l => by
    simp only [addL, addT_ok, addL_ok I s m l, sumL, Int.mul_add, Int.mul_assoc]; omega
/-- The one, and so many times the other. -/
noncomputable def LF.plus (f : LF) (s : Int) (g : LF) : LF := ⟨f.c + s * g.c, addL s g.l f.l⟩
theorem LF.plus_ok (I : Nat → Int) (f g : LF) (s : Int) : (f.plus s g).den I = f.den I + s * g.den I := by
  simp only [LF.plus, LF.den, addL_ok, Int.mul_add]; omega
noncomputable def inKv (k : IntKind) (v : Ivl) : Bool := match v with | ⟨some m, some n⟩ => inK k m n | _ => false
noncomputable def okBin (A : Asm) (op : BinOp) (k : IntKind) (a b : IE) : Bool :=
  match ivlE A a, ivlE A b with
  | ⟨some m, some n⟩, ⟨some c, some d⟩ => match op with
    | .add => inK k (m + c) (n + d)
    | .sub => inK k (m - d) (n - c)
    | .mul => decide (c = d ∧ 0 ≤ c) && inK k (m * c) (n * c)
    | _ => false
  | _, _ => false
noncomputable def linBin (op : BinOp) (b : IE) (fa fb self : LF) : LF :=
  match op, b with
  | .add, _ => fa.plus 1 fb
  | .sub, _ => fa.plus (-1) fb
  | .mul, .lit s => (⟨0, []⟩ : LF).plus s fa
  | _, _ => self
noncomputable def lin (A : Asm) : IE → LF
  | .lit n => ⟨n, []⟩
  | .at i => ⟨0, [(.at i, 1)]⟩
  | .bin op k a b => if okBin A op k a b then linBin op b (lin A a) (lin A b) ⟨0, [(.bin op k a b, 1)]⟩ else ⟨0, [(.bin op k a b, 1)]⟩
  | .conv k a => if inKv k (ivlE A a) then lin A a else ⟨0, [(.conv k a, 1)]⟩
theorem lin_ok {A : Asm} {I : Nat → Int} (hA : A.Holds I) : ∀ (e : IE), (lin A e).den I = e.den I
  | .lit n => by simp [lin, LF.den, sumL, IE.den]
  | .at i => by simp [lin, LF.den, sumL]
  | .bin op k a b => by
    simp only [lin]
    split
    · rename_i hk
      have ha := lin_ok hA a
      have hb := lin_ok hA b
      have va := ivlE_ok hA a
      have vb := ivlE_ok hA b
      unfold okBin at hk
      split at hk
      · rename_i m n c d e1 e2
        rw [e1] at va
        rw [e2] at vb
        have h1 := va.1 m rfl
        have h2 := va.2 n rfl
        have h3 := vb.1 c rfl
        have h4 := vb.2 d rfl
        unfold linBin
        split
        · simp only [LF.plus_ok, ha, hb, IE.den, arith]
          simp only at hk
          rw [wrap_in hk (by omega) (by omega)]; omega
        · simp only [LF.plus_ok, ha, hb, IE.den, arith]
          simp only at hk
          rw [wrap_in hk (by omega) (by omega)]; omega
        · rename_i s
          simp only [LF.plus_ok, ha, IE.den, arith] at h3 h4 ⊢
          simp only [Bool.and_eq_true, decide_eq_true_eq] at hk
          obtain ⟨⟨rfl, hc⟩, hk⟩ := hk
          obtain rfl : s = c := by omega
          have g1 : m * s ≤ a.den I * s := Int.mul_le_mul_of_nonneg_right h1 hc
          have g2 : a.den I * s ≤ n * s := Int.mul_le_mul_of_nonneg_right h2 hc
          rw [wrap_in hk g1 g2, Int.mul_comm]
          simp [LF.den, sumL]
        · simp [LF.den, sumL]
      · cases hk
    · simp [LF.den, sumL]
  | .conv k a => by
    simp only [lin]
    split
    · rename_i hk
      have va := ivlE_ok hA a
      unfold inKv at hk
      split at hk
      · rename_i m n e1
        rw [e1] at va
        rw [lin_ok hA a]
        simp only [IE.den]
        rw [wrap_in hk (va.1 m rfl) (va.2 n rfl)]
      · cases hk
    · simp [LF.den, sumL]
/-- The least that a sum may be. -/
noncomputable def lbL (A : Asm) : List (IE × Int) → Option Int
  | [] => some 0
  | (e, s) :: l => match lbL A l with
    | none => none
    | some r => if 0 ≤ s then (match (ivlE A e).lo with | some m => some (s * m + r) | none => none) else (match (ivlE A e).hi with | some m => some (s * m + r) | none => none)
theorem lbL_ok {A : Asm} {I : Nat → Int} (hA : A.Holds I) : ∀ {l : List (IE × Int)} {m : Int}, lbL A l = some m → m ≤ sumL I l
  | [], m, h => by cases h; exact Int.le_refl _
  | (e, s) :: l, m, h => by
    simp only [lbL] at h
    split at h
    · cases h
    · rename_i r hr
      have ih := lbL_ok hA hr
      have ve := ivlE_ok hA e
      split at h
      · rename_i hs
        split at h
        · rename_i q hq
          cases h
          have := Int.mul_le_mul_of_nonneg_left (ve.1 q hq) hs
          simp only [sumL]; omega
        · cases h
      · rename_i hs
        split at h
        · rename_i q hq
          cases h
          have h1 := Int.mul_le_mul_of_nonneg_left (ve.2 q hq) (show 0 ≤ -s by omega)
          have : s * q ≤ s * e.den I := by rw [Int.neg_mul, Int.neg_mul] at h1; omega
          simp only [sumL]; omega
        · cases h
noncomputable def LF.geB (A : Asm) (f : LF) : Bool := match lbL A f.l with | some m => decide (0 ≤ f.c + m) | none => false
theorem LF.geB_ok {A : Asm} {I : Nat → Int} (hA : A.Holds I) {f : LF} (h : f.geB A = true) : 0 ≤ f.den I := by
  unfold LF.geB at h
  split at h
  · rename_i m hm
    have := lbL_ok hA hm
    simp only [decide_eq_true_eq] at h
    simp only [LF.den]; omega
  · cases h
/-- What a fact says to be no less than 0. -/
noncomputable def factLF (A : Asm) (op : BinOp) (x y : IE) (r : Bool) : List LF :=
  let f := lin A x
  let g := lin A y
  let one : LF := ⟨1, []⟩
  match op, r with
  | .eql, true => [f.plus (-1) g, g.plus (-1) f]
  | .neq, false => [f.plus (-1) g, g.plus (-1) f]
  | .lss, true => [(g.plus (-1) f).plus (-1) one]
  | .lss, false => [f.plus (-1) g]
  | .leq, true => [g.plus (-1) f]
  | .leq, false => [(f.plus (-1) g).plus (-1) one]
  | .gtr, true => [(f.plus (-1) g).plus (-1) one]
  | .gtr, false => [g.plus (-1) f]
  | .geq, true => [f.plus (-1) g]
  | .geq, false => [(g.plus (-1) f).plus (-1) one]
  | _, _ => []
theorem factLF_ok {A : Asm} {I : Nat → Int} (hA : A.Holds I) {op : BinOp} {x y : IE} {r : Bool} (h : cmpD op (x.den I) (y.den I) = r) {f : LF} (hf : f ∈ factLF A op x y r) : 0 ≤ f.den I := by
  have one : (⟨1, []⟩ : LF).den I = 1 := by simp [LF.den, sumL]
  unfold factLF at hf
  simp only [] at hf
  split at hf <;> simp only [cmpD, beq_iff_eq, bne_eq_false_iff_eq, decide_eq_true_eq, decide_eq_false_iff_not] at h <;> simp only [List.mem_cons, List.not_mem_nil, or_false] at hf
  case h_1 | h_2 => rcases hf with rfl | rfl <;> (simp only [LF.plus_ok, lin_ok hA]; omega)
  all_goals first | (subst hf; simp only [LF.plus_ok, lin_ok hA, one]; omega)
noncomputable def isLit : IE → Bool
  | .lit _ => true
  | _ => false
noncomputable def LF.ge (A : Asm) (f : LF) : Bool :=
  f.geB A || A.cmps.any fun (op, x, y, r) => !isLit y && (factLF A op x y r).any fun g => (f.plus (-1) g).geB A
theorem LF.ge_ok {A : Asm} {I : Nat → Int} (hA : A.Holds I) {f : LF} (h : f.ge A = true) : 0 ≤ f.den I := by
  simp only [LF.ge, Bool.or_eq_true, List.any_eq_true] at h
  rcases h with h | ⟨⟨op, x, y, r⟩, hm, h⟩
  · exact LF.geB_ok hA h
  · simp only [Bool.and_eq_true, List.any_eq_true] at h
    obtain ⟨_, g, hg, h⟩ := h
    have h1 := factLF_ok hA (hA.cmps _ _ _ _ hm) hg
    have h2 := LF.geB_ok hA h
    rw [LF.plus_ok] at h2
    omega
noncomputable def linDecide (A : Asm) (op : BinOp) (a b : IE) : Option Bool :=
  let f := (lin A a).plus (-1) (lin A b)
  let g := (lin A b).plus (-1) (lin A a)
  let one : LF := ⟨1, []⟩
  match op with
  | .lss => if (g.plus (-1) one).ge A then some true else if f.ge A then some false else none
  | .geq => if (g.plus (-1) one).ge A then some false else if f.ge A then some true else none
  | .gtr => if (f.plus (-1) one).ge A then some true else if g.ge A then some false else none
  | .leq => if (f.plus (-1) one).ge A then some false else if g.ge A then some true else none
  | .eql => if (f.plus (-1) one).ge A || (g.plus (-1) one).ge A then some false else if f.ge A && g.ge A then some true else none
  | .neq => if (f.plus (-1) one).ge A || (g.plus (-1) one).ge A then some true else if f.ge A && g.ge A then some false else none
  | _ => none
theorem linDecide_ok {A : Asm} {I : Nat → Int} (hA : A.Holds I) {op : BinOp} {a b : IE} {r : Bool} (h : linDecide A op a b = some r) : cmpD op (a.den I) (b.den I) = r := by
  have one : (⟨1, []⟩ : LF).den I = 1 := by simp [LF.den, sumL]
  have key : ∀ {f : LF}, f.ge A = true → 0 ≤ f.den I := fun h => LF.ge_ok hA h
  unfold linDecide at h
  simp only [] at h
  split at h
  case h_7 => cases h
  case h_5 | h_6 =>
    split at h
    · rename_i hc
      cases h
      simp only [Bool.or_eq_true] at hc
      rcases hc with hc | hc
      · have := key hc; simp only [LF.plus_ok, lin_ok hA, one] at this; simp [cmpD]; omega
      · have := key hc; simp only [LF.plus_ok, lin_ok hA, one] at this; simp [cmpD]; omega
    · split at h
      · rename_i hc
        cases h
        simp only [Bool.and_eq_true] at hc
        have h1 := key hc.1
        have h2 := key hc.2
        simp only [LF.plus_ok, lin_ok hA] at h1 h2
        simp [cmpD]; omega
      · cases h
  all_goals
    split at h
    · rename_i hc
      cases h
      have := key hc; simp only [LF.plus_ok, lin_ok hA, one] at this; simp [cmpD]; omega
    · split at h
      · rename_i hc
        cases h
        have := key hc; simp only [LF.plus_ok, lin_ok hA] at this; simp [cmpD]; omega
      · cases h
/-- A comparison, decided by the numbers or by what is known. -/
noncomputable def cmpI0 (A : Asm) (op : BinOp) (a b : IE) : R Bool :=
  match a, b with
  | .lit x, .lit y => .ok (cmpD op x y)
  | a, b => if a.beq b then .ok (cmpD op 0 0) else match Asm.findC op a b A.cmps with
    | some r => .ok r
    | none => match Ivl.decide op (Ivl.ofIE a A.cmps) (Ivl.ofIE b A.cmps) with
      | some r => .ok r
      | none => match linDecide A op a b with
        | some r => .ok r
        | none => .no (.ask op a b)
theorem cmpI0_ok {A : Asm} {I : Nat → Int} (hA : A.Holds I) {op : BinOp} {a b : IE} {r : Bool} (h : cmpI0 A op a b = .ok r) : cmpD op (a.den I) (b.den I) = r := by
  unfold cmpI0 at h
  split at h
  · injection h
  · split at h
    · rename_i hb
      rw [IE.eq_of_beq hb]
      injection h with h
      rw [← h]
      cases op <;> simp [cmpD]
    · split at h
      · rename_i hc
        cases h
        exact Asm.findC_ok hA.cmps hc
      · split at h
        · rename_i hc
          cases h
          exact Ivl.decide_ok (Ivl.ofIE_ok hA.cmps) (Ivl.ofIE_ok hA.cmps) hc
        · split at h
          · rename_i hc
            cases h
            exact linDecide_ok hA hc
          · cases h
/-- The same comparison, sides changed. -/
noncomputable def swapOp : BinOp → Option BinOp
  | .eql => some .eql
  | .lss => some .gtr
  | .leq => some .geq
  | .gtr => some .lss
  | .geq => some .leq
  | _ => none
theorem swapOp_ok {op o : BinOp} (h : swapOp op = some o) (x y : Int) : cmpD op x y = cmpD o y x := by
  cases op <;> simp only [swapOp, Option.some.injEq, reduceCtorEq] at h <;> subst h <;> simp only [cmpD]
  · rw [Bool.eq_iff_iff]; simp only [beq_iff_eq]; omega
  all_goals first | rfl | (rw [decide_eq_decide]; omega)
noncomputable def cmpI1 (A : Asm) (op : BinOp) (a b : IE) : R Bool :=
  if isLit a && !isLit b then (match swapOp op with | some o => cmpI0 A o b a | none => cmpI0 A op a b) else cmpI0 A op a b
theorem cmpI1_ok {A : Asm} {I : Nat → Int} (hA : A.Holds I) {op : BinOp} {a b : IE} {r : Bool} (h : cmpI1 A op a b = .ok r) : cmpD op (a.den I) (b.den I) = r := by
  unfold cmpI1 at h
  split at h
  · split at h
    · rename_i o ho
      rw [swapOp_ok ho]
      exact cmpI0_ok hA h
    · exact cmpI0_ok hA h
  · exact cmpI0_ok hA h
noncomputable def cmpI (A : Asm) (op : BinOp) (a b : IE) : R Bool :=
  match op with
  | .neq => (cmpI1 A .eql a b).bind fun r => .ok (!r)
  | op => cmpI1 A op a b
theorem cmpI_ok {A : Asm} {I : Nat → Int} (hA : A.Holds I) {op : BinOp} {a b : IE} {r : Bool} (h : cmpI A op a b = .ok r) : cmpD op (a.den I) (b.den I) = r := by
  unfold cmpI at h
  split at h
  · simp only [R.bind_ok] at h
    obtain ⟨q, hq, h⟩ := h
    cases h
    have := cmpI1_ok hA hq
    simp only [cmpD] at this ⊢
    rw [← this]; rfl
  · exact cmpI1_ok hA h
/-- A number that must be known: a letter that can be but one, or else it is asked. -/
noncomputable def askC (A : Asm) (e : IE) (m : Int) : Why :=
  match lin A e with
  | ⟨c, [(x, s)]⟩ => if s = 1 then .ask .eql x (.lit (m - c)) else if s = -1 then .ask .eql x (.lit (c - m)) else .ask .eql e (.lit m)
  | _ => .ask .eql e (.lit m)
noncomputable def concI (A : Asm) (e : IE) : R Int :=
  match e with
  | .lit n => .ok n
  | e => match (ivlE A e).lo, (ivlE A e).hi with
    | some m, some n => if m = n then .ok m else if n - m ≤ 64 then .no (askC A e m) else .no (.msg "a number that is not known")
    | _, _ => .no (.msg "a number that is not known")
theorem concI_ok {A : Asm} {I : Nat → Int} (hA : A.Holds I) {e : IE} {n : Int} (h : concI A e = .ok n) : e.den I = n := by
  unfold concI at h
  split at h
  · injection h
  · split at h
    · rename_i m k hm hk
      split at h
      · rename_i hmk
        injection h with h
        have := ivlE_ok hA e
        have h1 := this.1 m hm
        have h2 := this.2 k hk
        omega
      · split at h <;> cases h
    · cases h
noncomputable def binI (A : Asm) (op : BinOp) (k : IntKind) (a b : IE) : IE :=
  match op, a, b with
  | op, .lit x, .lit y => .lit (arith op k x y)
  | .mul, .lit x, b => Asm.findE (.bin .mul k b (.lit x)) A.eqs
  | op, a, b => Asm.findE (.bin op k a b) A.eqs
theorem binI_ok {A : Asm} {I : Nat → Int} (hA : A.Holds I) (op : BinOp) (k : IntKind) (a b : IE) : (binI A op k a b).den I = arith op k (a.den I) (b.den I) := by
  unfold binI
  split
  · rfl
  · rw [Asm.findE_ok hA.eqs]
    simp only [IE.den, arith, Int.mul_comm]
  · exact Asm.findE_ok hA.eqs
noncomputable def convI (A : Asm) (k : IntKind) (a : IE) : IE :=
  match a with
  | .lit x => .lit (k.wrap x)
  | a => Asm.findE (.conv k a) A.eqs
theorem convI_ok {A : Asm} {I : Nat → Int} (hA : A.Holds I) (k : IntKind) (a : IE) : (convI A k a).den I = k.wrap (a.den I) := by
  unfold convI
  split
  · rfl
  · exact Asm.findE_ok hA.eqs

/-! ### Texts -/
theorem decDigits_all (u : Nat) : ∀ c ∈ Go.Lib.decDigits u, 48 ≤ c.toNat ∧ c.toNat ≤ 57 := by
  induction u using Nat.strongRecOn with
  | _ u ih =>
    intro c hc
    rw [Go.Lib.decDigits] at hc
    split at hc
    · rename_i h
      simp only [List.mem_singleton] at hc
      subst hc
      simp only [UInt8.toNat_ofNat']
      omega
    · rename_i h
      rcases List.mem_append.1 hc with hc | hc
      · exact ih (u / 10) (by omega) c hc
      · simp only [List.mem_singleton] at hc
        subst hc
        simp only [UInt8.toNat_ofNat']
        omega
theorem decDigits_ne (u : Nat) : Go.Lib.decDigits u ≠ [] := by
  rw [Go.Lib.decDigits]
  split <;> simp
noncomputable def decVal (l : List UInt8) : Nat := l.foldl (fun r b => r * 10 + (b.toNat - 48)) 0
theorem decVal_dec (u : Nat) : decVal (Go.Lib.decDigits u) = u := by
  induction u using Nat.strongRecOn with
  | _ u ih =>
    rw [Go.Lib.decDigits]
    split
    · rename_i h
      simp only [decVal, List.foldl_cons, List.foldl_nil, UInt8.toNat_ofNat']
      omega
    · rename_i h
      have := ih (u / 10) (by omega)
      unfold decVal at this ⊢
      rw [List.foldl_append, this]
      simp only [List.foldl_cons, List.foldl_nil, UInt8.toNat_ofNat']
      omega
/-- Where digits end. -/
noncomputable def StopD (X : List UInt8) : Prop := ∀ c, X.head? = some c → ¬ (48 ≤ c.toNat ∧ c.toNat ≤ 57)
theorem digits_split : ∀ {l m X Y : List UInt8}, (∀ c ∈ l, 48 ≤ c.toNat ∧ c.toNat ≤ 57) → (∀ c ∈ m, 48 ≤ c.toNat ∧ c.toNat ≤ 57) → StopD X → StopD Y → l ++ X = m ++ Y → l = m ∧ X = Y
  | [], [], X, Y, _, _, _, _, h => ⟨rfl, h⟩
  | [], c :: m, X, Y, _, hm, hX, _, h => by
    simp only [List.nil_append, List.cons_append] at h
    exact absurd (hm c (by simp)) (hX c (by rw [h]; rfl))
  | c :: l, [], X, Y, hl, _, _, hY, h => by
    simp only [List.nil_append, List.cons_append] at h
    exact absurd (hl c (by simp)) (hY c (by rw [← h]; rfl))
  | c :: l, d :: m, X, Y, hl, hm, hX, hY, h => by
    simp only [List.cons_append, List.cons.injEq] at h
    obtain ⟨h1, h2⟩ := digits_split (fun c h => hl c (by simp [h])) (fun c h => hm c (by simp [h])) hX hY h.2
    exact ⟨by rw [h.1, h1], h2⟩
theorem itoa_split {a b : Int} {X Y : List UInt8} (hX : StopD X) (hY : StopD Y) (h : Go.Lib.itoa a ++ X = Go.Lib.itoa b ++ Y) : a = b ∧ X = Y := by
  unfold Go.Lib.itoa at h
  split at h <;> split at h
  · simp only [List.cons_append, List.cons.injEq, true_and] at h
    obtain ⟨h1, h2⟩ := digits_split (decDigits_all _) (decDigits_all _) hX hY h
    have := congrArg decVal h1
    rw [decVal_dec, decVal_dec] at this
    exact ⟨by omega, h2⟩
  · exfalso
    rename_i ha hb
    cases hd : Go.Lib.decDigits b.toNat with
    | nil => exact decDigits_ne _ hd
    | cons c l =>
      rw [hd] at h
      simp only [List.cons_append, List.cons.injEq] at h
      have := decDigits_all b.toNat c (by rw [hd]; simp)
      rw [← h.1] at this
      simp at this
  · exfalso
    rename_i ha hb
    cases hd : Go.Lib.decDigits a.toNat with
    | nil => exact decDigits_ne _ hd
    | cons c l =>
      rw [hd] at h
      simp only [List.cons_append, List.cons.injEq] at h
      have := decDigits_all a.toNat c (by rw [hd]; simp)
      rw [h.1] at this
      simp at this
  · obtain ⟨h1, h2⟩ := digits_split (decDigits_all _) (decDigits_all _) hX hY h
    have := congrArg decVal h1
    rw [decVal_dec, decVal_dec] at this
    exact ⟨by omega, h2⟩
theorem itoa_ne (a : Int) : Go.Lib.itoa a ≠ [] := by
  unfold Go.Lib.itoa
  split
  · simp
  · exact decDigits_ne _
/-- The digits of a number that is known. -/
noncomputable def digs : Nat → Nat → List Nat
  | 0, _ => []
  | f + 1, u => if u < 10 then [48 + u] else digs f (u / 10) ++ [48 + u % 10]
theorem digs_ok : ∀ (f u : Nat), u < f → (digs f u).map UInt8.ofNat = Go.Lib.decDigits u
  | 0, u, h => by omega
  | f + 1, u, h => by
    rw [Go.Lib.decDigits]
    simp only [digs]
    split
    · rfl
    · rename_i h'
      rw [List.map_append, digs_ok f (u / 10) (by omega)]
      rfl
theorem digs_small : ∀ (f u : Nat), (digs f u).all (· < 256) = true
  | 0, u => rfl
  | f + 1, u => by
    simp only [digs]
    split
    · simp; omega
    · rw [List.all_append, digs_small f]; simp; omega
/-- A byte of a text, or a number in decimals. -/
inductive Ch where
  | c (b : Nat)
  | n (e : IE)
noncomputable def chDen (I : Nat → Int) : List Ch → List UInt8
  | [] => []
  | .c b :: l => UInt8.ofNat b :: chDen I l
  | .n e :: l => Go.Lib.itoa (e.den I) ++ chDen I l
noncomputable def chWf : List Ch → Bool
  | [] => true
  | .c b :: l => decide (b < 256) && chWf l
  | .n _ :: l => chWf l
theorem chDen_append (I : Nat → Int) : ∀ (l m : List Ch), chDen I (l ++ m) = chDen I l ++ chDen I m
  | [], m => rfl
  | .c b :: l, m => by simp [chDen, chDen_append I l m]
  | .n e :: l, m => by simp [chDen, chDen_append I l m]
theorem chWf_append : ∀ {l m : List Ch}, chWf (l ++ m) = (chWf l && chWf m)
  | [], m => rfl
  | .c b :: l, m => by simp [chWf, chWf_append (l := l), Bool.and_assoc]
  | .n e :: l, m => by simp [chWf, chWf_append (l := l)]
theorem chDen_c (I : Nat → Int) : ∀ (s : List Nat), chDen I (s.map Ch.c) = s.map UInt8.ofNat
  | [] => rfl
  | b :: s => by simp [chDen, chDen_c I s]
theorem chWf_c : ∀ (s : List Nat), chWf (s.map Ch.c) = s.all (· < 256)
  | [] => rfl
  | b :: s => by simp only [List.map_cons, chWf, chWf_c s, List.all_cons]
noncomputable def chStop : List Ch → Bool
  | [] => true
  | .c b :: _ => decide (b < 48) || decide (57 < b)
  | .n _ :: _ => false
theorem chStop_ok {I : Nat → Int} {l : List Ch} (h : chStop l = true) (hw : chWf l = true) : StopD (chDen I l) := by
  intro c hc
  match l, h, hw with
  | [], _, _ => cases hc
  | .c b :: l, h, hw =>
    simp only [chDen, List.head?_cons, Option.some.injEq] at hc
    subst hc
    simp only [chStop, Bool.or_eq_true, decide_eq_true_eq] at h
    simp only [chWf, Bool.and_eq_true, decide_eq_true_eq] at hw
    simp only [UInt8.toNat_ofNat']
    omega
  | .n e :: l, h, _ => cases h
/-- Are two texts one? -/
noncomputable def chEq (A : Asm) : List Ch → List Ch → R Bool
  | [], [] => .ok true
  | [], _ :: _ => .ok false
  | _ :: _, [] => .ok false
  | .c a :: x, .c b :: y => if a = b then chEq A x y else .ok false
  | .n a :: x, .n b :: y => (cmpI A .eql a b).bind fun r => if r then chEq A x y else if chStop x && chStop y then .ok false else .no "text: numbers"
  | .c _ :: _, .n _ :: _ => .no "text: a number"
  | .n _ :: _, .c _ :: _ => .no "text: a number"
theorem chEq_ok {A : Asm} {I : Nat → Int} (hA : A.Holds I) : ∀ {x y : List Ch} {r : Bool}, chWf x = true → chWf y = true → chEq A x y = .ok r → (decide (chDen I x = chDen I y)) = r
  | [], [], r, _, _, h => by cases h; rfl
  | [], .c b :: y, r, _, _, h => by cases h; simp [chDen]
  | [], .n e :: y, r, _, _, h => by cases h; have := itoa_ne (e.den I); refine decide_eq_false ?_; simp only [chDen]; intro h; exact this (List.append_eq_nil_iff.1 h.symm).1
  | .c b :: y, [], r, _, _, h => by cases h; simp [chDen]
  | .n e :: y, [], r, _, _, h => by cases h; have := itoa_ne (e.den I); refine decide_eq_false ?_; simp only [chDen]; intro h; exact this (List.append_eq_nil_iff.1 h).1
  | .c a :: x, .c b :: y, r, hx, hy, h => by
    simp only [chEq] at h
    simp only [chWf, Bool.and_eq_true, decide_eq_true_eq] at hx hy
    split at h
    · rename_i e
      subst e
      rw [← chEq_ok hA hx.2 hy.2 h]
      simp [chDen]
    · rename_i e
      cases h
      refine decide_eq_false ?_
      simp only [chDen, List.cons.injEq, not_and]
      intro hab
      have := congrArg UInt8.toNat hab
      simp only [UInt8.toNat_ofNat'] at this
      omega
  | .n a :: x, .n b :: y, r, hx, hy, h => by
    simp only [chEq, R.bind_ok] at h
    simp only [chWf] at hx hy
    obtain ⟨q, hq, h⟩ := h
    have hc := cmpI_ok hA hq
    simp only [cmpD] at hc
    split at h
    · rename_i e
      subst e
      have e : a.den I = b.den I := by simpa using hc
      rw [← chEq_ok hA hx hy h]
      simp [chDen, e]
    · rename_i e
      split at h
      · rename_i hs
        simp only [Bool.and_eq_true] at hs
        cases h
        refine decide_eq_false ?_
        simp only [chDen]
        intro he
        have := (itoa_split (chStop_ok hs.1 hx) (chStop_ok hs.2 hy) he).1
        simp [this] at hc
        exact e hc
      · cases h
  | .c _ :: _, .n _ :: _, r, _, _, h => by simp [chEq] at h
  | .n _ :: _, .c _ :: _, r, _, _, h => by simp [chEq] at h
/-- A number in decimals, of as many bytes as numbers of the language have. -/
noncomputable def inI64 (A : Asm) (e : IE) : Bool := inKv .i64 (ivlE A e)
theorem inI64_ok {A : Asm} {I : Nat → Int} (hA : A.Holds I) {e : IE} (h : inI64 A e = true) : -9223372036854775808 ≤ e.den I ∧ e.den I ≤ 9223372036854775807 := by
  have v := ivlE_ok hA e
  unfold inI64 inKv at h
  split at h
  · rename_i m n he
    rw [he] at v
    have h1 := v.1 m rfl
    have h2 := v.2 n rfl
    simp only [inK, Bool.and_eq_true, decide_eq_true_eq] at h
    have e1 : IntKind.i64.min = -9223372036854775808 := by decide
    have e2 : IntKind.i64.max = 9223372036854775807 := by decide
    omega
  · cases h
/-- How long a text may be. -/
noncomputable def chMost (A : Asm) : List Ch → Option Nat
  | [] => some 0
  | .c _ :: l => (chMost A l).map (· + 1)
  | .n e :: l => if inI64 A e then (chMost A l).map (· + 21) else none
theorem chMost_ok {A : Asm} {I : Nat → Int} (hA : A.Holds I) : ∀ {l : List Ch} {n : Nat}, chMost A l = some n → (chDen I l).length ≤ n
  | [], n, h => by simp [chMost] at h; subst h; simp [chDen]
  | .c b :: l, n, h => by
    simp only [chMost, Option.map_eq_some_iff] at h
    obtain ⟨m, hm, rfl⟩ := h
    have := chMost_ok hA hm
    simp only [chDen, List.length_cons]; omega
  | .n e :: l, n, h => by
    simp only [chMost] at h
    split at h
    · rename_i hi
      simp only [Option.map_eq_some_iff] at h
      obtain ⟨m, hm, rfl⟩ := h
      have := chMost_ok hA hm
      have := Go.Lib.itoa_length_le _ (inI64_ok hA hi).1 (inI64_ok hA hi).2
      simp only [chDen, List.length_append]; omega
    · cases h
/-- A number as a text. -/
noncomputable def numCh (e : IE) : List Ch :=
  match e with
  | .lit n => (if n < 0 then 45 :: digs (n.natAbs + 1) n.natAbs else digs (n.toNat + 1) n.toNat).map Ch.c
  | e => [.n e]
theorem numCh_ok (I : Nat → Int) (e : IE) : chDen I (numCh e) = Go.Lib.itoa (e.den I) ∧ chWf (numCh e) = true := by
  unfold numCh
  split
  · rename_i n
    rw [chDen_c, chWf_c]
    rw [show IE.den I (.lit n) = n from rfl]
    unfold Go.Lib.itoa
    by_cases hn : n < 0
    · rw [if_pos hn, if_pos hn]
      exact ⟨by rw [List.map_cons, digs_ok _ _ (Nat.lt_succ_self _)]; rfl, by rw [List.all_cons, digs_small]; decide⟩
    · rw [if_neg hn, if_neg hn]
      exact ⟨digs_ok _ _ (Nat.lt_succ_self _), digs_small _ _⟩
  · exact ⟨by simp [chDen], rfl⟩
/-- The bytes of a text in which no number stands. -/
noncomputable def chLits : List Ch → Option (List Nat)
  | [] => some []
  | .c b :: l => (chLits l).map (b :: ·)
  | .n _ :: _ => none
theorem chLits_ok : ∀ {l : List Ch} {s : List Nat}, chLits l = some s → l = s.map Ch.c
  | [], s, h => by simp [chLits] at h; subst h; rfl
  | .c b :: l, s, h => by
    simp only [chLits, Option.map_eq_some_iff] at h
    obtain ⟨m, hm, rfl⟩ := h
    rw [chLits_ok hm]; rfl
  | .n e :: l, s, h => by cases h
noncomputable def Ch.beqL : List Ch → List Ch → Bool
  | [], [] => true
  | .c a :: l, .c b :: m => a == b && Ch.beqL l m
  | .n a :: l, .n b :: m => a.beq b && Ch.beqL l m
  | _, _ => false
theorem Ch.eq_of_beqL : ∀ {l m : List Ch}, Ch.beqL l m = true → l = m
  | [], [], _ => rfl
  | .c a :: l, .c b :: m, h => by simp only [Ch.beqL, Bool.and_eq_true, beq_iff_eq] at h; rw [h.1, Ch.eq_of_beqL h.2]
  | .n a :: l, .n b :: m, h => by simp only [Ch.beqL, Bool.and_eq_true] at h; rw [IE.eq_of_beq h.1, Ch.eq_of_beqL h.2]
  | [], .c _ :: _, h => by simp [Ch.beqL] at h
  | [], .n _ :: _, h => by simp [Ch.beqL] at h
  | .c _ :: _, [], h => by simp [Ch.beqL] at h
  | .n _ :: _, [], h => by simp [Ch.beqL] at h
  | .c _ :: _, .n _ :: _, h => by simp [Ch.beqL] at h
  | .n _ :: _, .c _ :: _, h => by simp [Ch.beqL] at h

/-! ### Values whose blocks have names -/
/-- A cell of something that is read alone. -/
inductive EC where
  | int (k : IntKind) (e : IE)
  | side (e : IE)
  | atom (i : Nat)
inductive SV where
  | bool (b : Bool)
  | int (k : IntKind) (e : IE)
  | str (s : List Nat)
  | nptr
  | ptr (s off : Nat)
  | nslice
  | slice (s off len : Nat) (cap : Option Nat) (sz : Nat)
  | nfunc
  | func (f : FuncId) (first cap : List SV)
  | yield (s : Nat)
  | niface
  | iface (t : TypeId) (v : SV)
  | agg (l : List SV)
  | tup (l : List SV)
  | atom (i : Nat)
  | txt (l : List Ch)
  | map (s : Nat)
  | nmap
  | any
  | asl (s : Nat) (len : IE) (sz : Nat) (foc : List (IE × Nat)) (els : List (IE × Nat × List EC))
  | belt (s i : Nat) (l : List EC) (off : Nat)
  | side (e : IE)
  | elt (l : List EC) (off : Nat)
instance : Inhabited SV := ⟨.tup []⟩
/-- Where a named block lies: its number, the cell at which it begins, and how many cells are its own. -/
structure Place where
  b : Nat
  o : Nat
  e : Nat
  v : Value
noncomputable def bytesOf (s : List Nat) : ByteArray := ⟨(s.map UInt8.ofNat).toArray⟩
/-- The numbers and values that the letters stand for. -/
structure Val where
  I : Nat → Int
  V : Nat → Value
  W : Nat → Place → World → Prop := fun _ _ _ => False
  F : Nat → Place → Nat → Prop := fun _ _ _ => False
  lt : ∀ i b w k, W i b w → F i b k → k < w.heap.size := by intros; first | contradiction | assumption
  loc : ∀ i b w w', W i b w → (∀ k, F i b k → w'.heap[k]? = w.heap[k]?) → W i b w' := by intros; first | contradiction | assumption
  K : World → Prop := fun _ => True
  Kf : Nat → Prop := fun _ => False
  Klt : ∀ w k, K w → Kf k → k < w.heap.size := by intros; first | contradiction | assumption
  Kloc : ∀ w w', K w → (∀ k, Kf k → w'.heap[k]? = w.heap[k]?) → K w' := by intros; first | trivial | assumption
  C : Nat → Array Value × TypeId := fun _ => (#[], 0)
abbrev Rho := Nat → Option Place
noncomputable def EC.ok (E : Val) : EC → Value → Prop
  | .int k e, v => v = .int k (e.den E.I)
  | .side e, v => v = .bool (e.den E.I == 1)
  | .atom i, v => (E.V i).oneCell' = true ∧ v = E.V i
/-- What lies there wherever a thing is what it is told to be. -/
noncomputable def EltW (E : Val) (i : Nat) (q : Place) (b o : Nat) (l : List EC) : Prop := ∀ w, E.W i q w → ∀ (j : Nat) (e : EC), l[j]? = some e → ∃ v, w.cell? ⟨b, o + j, none⟩ = some v ∧ e.ok E v
/-- What lies there in each world that is meant. -/
noncomputable def EltK (E : Val) (b o : Nat) (l : List EC) : Prop := ∀ w, E.K w → ∀ (j : Nat) (e : EC), l[j]? = some e → ∃ v, w.cell? ⟨b, o + j, none⟩ = some v ∧ e.ok E v
mutual
/-- What a value whose blocks have names may be. -/
noncomputable def Den (E : Val) (ρ : Rho) : SV → Value → Prop
  | .bool b, u => u = .bool b
  | .int k e, u => u = .int k (e.den E.I)
  | .str s, u => s.all (· < 256) = true ∧ u = .string (bytesOf s)
  | .nptr, u => u = .pointer none
  | .ptr s off, u => ∃ p, ρ s = some p ∧ u = .pointer (some ⟨p.b, p.o + off, none⟩)
  | .nslice, u => u = .slice none 0 0
  | .slice s off len cap sz, u => ∃ p, ρ s = some p ∧ ((u = .slice (some ⟨p.b, p.o + off, none⟩) len (cap.getD ((p.e - off) / sz)) ∧ len ≤ cap.getD ((p.e - off) / sz) ∧ 0 < sz) ∨ (len = 0 ∧ cap = none ∧ (∃ a : Addr, u = .slice (some a) 0 0) ∧ (p.e - off) / sz = 0 ∧ 0 < sz))
  | .nfunc, u => u = .nilFunc
  | .func f first cap, u => ∃ a b, DenL E ρ first a ∧ DenL E ρ cap b ∧ u = .func (.func f) a.toArray b.toArray
  | .yield s, u => ∃ p, ρ s = some p ∧ u = .func (.yield p.b) #[] #[]
  | .niface, u => u = .nilIface
  | .iface t v, u => ∃ x, Den E ρ v x ∧ u = .iface t x
  | .agg l, u => ∃ a, DenL E ρ l a ∧ u = .agg a.toArray
  | .tup l, u => ∃ a, DenL E ρ l a ∧ u = .tuple a.toArray
  | .atom i, u => (E.V i).oneCell' = true ∧ u = E.V i
  | .txt l, u => chWf l = true ∧ u = .string ⟨(chDen E.I l).toArray⟩
  | .map s, u => ∃ p, ρ s = some p ∧ u = .map (some p.b)
  | .nmap, u => u = .map none
  | .any, _ => True
  | .asl s len sz foc els, u => ∃ (q : Place), ρ s = some q ∧ u = q.v ∧ 0 ≤ len.den E.I ∧ ∃ (av : Option Addr) (c : Nat), u = .slice av (len.den E.I).toNat c ∧
      (∀ x, x ∈ foc → ∃ (p : Place) (a : Nat), ρ x.2 = some p ∧ av = some ⟨p.b, a, none⟩ ∧ p.o = a + (x.1.den E.I).toNat * sz) ∧
      ∀ x, x ∈ els → 0 ≤ x.1.den E.I → x.1.den E.I < len.den E.I → ∃ b a : Nat, av = some ⟨b, a, none⟩ ∧ EltW E x.2.1 q b (a + (x.1.den E.I).toNat * sz) x.2.2
  | .belt s i l off, u => ∃ (q : Place) (b o : Nat), ρ s = some q ∧ u = .pointer (some ⟨b, o + off, none⟩) ∧ EltW E i q b o l
  | .side e, u => u = .bool (e.den E.I == 1)
  | .elt l off, u => ∃ (b o : Nat), u = .pointer (some ⟨b, o + off, none⟩) ∧ EltK E b o l
noncomputable def DenL (E : Val) (ρ : Rho) : List SV → List Value → Prop
  | [], us => us = []
  | v :: l, us => ∃ u t, Den E ρ v u ∧ DenL E ρ l t ∧ us = u :: t
end
noncomputable def Rho.le (ρ ρ' : Rho) : Prop := ∀ s p, ρ s = some p → ρ' s = some p
theorem Rho.le.refl (ρ : Rho) : ρ.le ρ := fun _ _ h => h
theorem Rho.le.trans {a b c : Rho} (h : a.le b) (k : b.le c) : a.le c := fun s p e => k s p (h s p e)
mutual
theorem Den.mono {E : Val} {ρ ρ' : Rho} (h : ρ.le ρ') : ∀ {v : SV} {u : Value}, Den E ρ v u → Den E ρ' v u
  | .bool _, _, e => e
  | .int _ _, _, e => e
  | .str _, _, e => e
  | .nptr, _, e => e
  | .ptr s off, u, e => by
    obtain ⟨p, hp, e⟩ := e
    exact ⟨p, h _ _ hp, e⟩
  | .nslice, _, e => e
  | .slice .., u, e => by
    obtain ⟨p, hp, e⟩ := e
    exact ⟨p, h _ _ hp, e⟩
  | .nfunc, _, e => e
  | .func f first cap, u, e => by
    obtain ⟨a, b, ha, hb, e⟩ := e
    exact ⟨a, b, DenL.mono h ha, DenL.mono h hb, e⟩
  | .yield _, u, e => by
    obtain ⟨p, hp, e⟩ := e
    exact ⟨p, h _ _ hp, e⟩
  | .niface, _, e => e
  | .iface t v, u, e => by
    obtain ⟨p, hp, e⟩ := e
    exact ⟨p, Den.mono h hp, e⟩
  | .agg l, u, e => by
    obtain ⟨p, hp, e⟩ := e
    exact ⟨p, DenL.mono h hp, e⟩
  | .tup l, u, e => by
    obtain ⟨p, hp, e⟩ := e
    exact ⟨p, DenL.mono h hp, e⟩
  | .atom _, _, e => e
  | .txt _, _, e => e
  | .map _, u, e => by
    obtain ⟨p, hp, e⟩ := e
    exact ⟨p, h _ _ hp, e⟩
  | .nmap, _, e => e
  | .any, _, e => e
  | .asl s len sz foc els, u, e => by
    obtain ⟨q, h0, h1, h2, av, c, h3, h4, h5⟩ := e
    exact ⟨q, h _ _ h0, h1, h2, av, c, h3, fun x hx => let ⟨p, a, k1, k2⟩ := h4 x hx; ⟨p, a, h _ _ k1, k2⟩, h5⟩
  | .belt s i l off, u, e => by
    obtain ⟨q, b, o, k1, k2⟩ := e
    exact ⟨q, b, o, h _ _ k1, k2⟩
  | .side _, _, e => e
  | .elt _ _, _, e => e
theorem DenL.mono {E : Val} {ρ ρ' : Rho} (h : ρ.le ρ') : ∀ {l : List SV} {u : List Value}, DenL E ρ l u → DenL E ρ' l u
  | [], _, e => e
  | v :: l, u, e => by
    obtain ⟨a, b, ha, hb, e⟩ := e
    exact ⟨a, b, Den.mono h ha, DenL.mono h hb, e⟩
end
section
variable {E : Val} {ρ : Rho}
theorem DenL.nil : DenL E ρ [] [] := rfl
theorem DenL.cons {v : SV} {l : List SV} {u : Value} {us : List Value} (h : Den E ρ v u) (k : DenL E ρ l us) : DenL E ρ (v :: l) (u :: us) := ⟨u, us, h, k, rfl⟩
theorem DenL.length : ∀ {l : List SV} {us : List Value}, DenL E ρ l us → us.length = l.length
  | [], us, h => by cases h; rfl
  | v :: l, us, h => by
    obtain ⟨u, t, _, h2, rfl⟩ := h
    simp [DenL.length h2]
theorem DenL.get : ∀ {l : List SV} {us : List Value} {i : Nat} {v : SV}, DenL E ρ l us → l[i]? = some v → ∃ u, us[i]? = some u ∧ Den E ρ v u
  | [], us, i, v, h, hi => by simp at hi
  | w :: l, us, i, v, h, hi => by
    obtain ⟨u, t, h1, h2, rfl⟩ := h
    cases i with
    | zero => simp at hi; subst hi; exact ⟨u, rfl, h1⟩
    | succ i => simp at hi; obtain ⟨x, hx, hd⟩ := DenL.get h2 hi; exact ⟨x, by simpa using hx, hd⟩
theorem DenL.append : ∀ {l m : List SV} {us vs : List Value}, DenL E ρ l us → DenL E ρ m vs → DenL E ρ (l ++ m) (us ++ vs)
  | [], m, us, vs, h, k => by cases h; simpa using k
  | w :: l, m, us, vs, h, k => by
    obtain ⟨u, t, h1, h2, rfl⟩ := h
    exact ⟨u, t ++ vs, h1, DenL.append h2 k, rfl⟩
theorem DenL.take : ∀ {n : Nat} {l : List SV} {us : List Value}, DenL E ρ l us → DenL E ρ (l.take n) (us.take n)
  | 0, l, us, h => by simp [DenL]
  | n + 1, [], us, h => by cases h; simp [DenL]
  | n + 1, w :: l, us, h => by
    obtain ⟨u, t, h1, h2, rfl⟩ := h
    exact ⟨u, _, h1, DenL.take h2, by simp⟩
theorem DenL.drop : ∀ {n : Nat} {l : List SV} {us : List Value}, DenL E ρ l us → DenL E ρ (l.drop n) (us.drop n)
  | 0, l, us, h => by simpa using h
  | n + 1, [], us, h => by cases h; simp [DenL]
  | n + 1, w :: l, us, h => by
    obtain ⟨u, t, h1, h2, rfl⟩ := h
    simpa using DenL.drop (n := n) h2
theorem DenL.set {v : SV} {u : Value} (hv : Den E ρ v u) : ∀ {n : Nat} {l : List SV} {us : List Value}, DenL E ρ l us → DenL E ρ (l.set n v) (us.set n u)
  | n, [], us, h => by cases h; simp [DenL]
  | 0, w :: l, us, h => by
    obtain ⟨x, t, h1, h2, rfl⟩ := h
    exact ⟨u, t, hv, h2, by simp⟩
  | n + 1, w :: l, us, h => by
    obtain ⟨x, t, h1, h2, rfl⟩ := h
    exact ⟨x, _, h1, DenL.set hv h2, by simp⟩
theorem DenL.of_get : ∀ {l : List SV} {us : List Value}, us.length = l.length → (∀ (i : Nat) (v : SV), l[i]? = some v → ∃ u, us[i]? = some u ∧ Den E ρ v u) → DenL E ρ l us
  | [], us, hl, _ => by cases us <;> simp_all [DenL]
  | w :: l, us, hl, h => by
    cases us with
    | nil => simp at hl
    | cons u us =>
      obtain ⟨x, hx, hd⟩ := h 0 w rfl
      simp at hx; subst hx
      exact ⟨u, us, hd, DenL.of_get (by simpa using hl) (fun i v hv => by simpa using h (i + 1) v (by simpa using hv)), rfl⟩
theorem DenL.replicate {v : SV} {u : Value} (hv : Den E ρ v u) : ∀ (n : Nat), DenL E ρ (List.replicate n v) (List.replicate n u)
  | 0 => rfl
  | n + 1 => ⟨u, _, hv, DenL.replicate hv n, rfl⟩
theorem DenL.one {v : SV} {us : List Value} (h : DenL E ρ [v] us) : ∃ u, us = [u] ∧ Den E ρ v u := by
  obtain ⟨u, t, h1, h2, rfl⟩ := h
  cases h2
  exact ⟨u, rfl, h1⟩
end
/-- Is it the value of one cell? -/
noncomputable def SV.one : SV → Bool
  | .agg _ | .tup _ | .any => false
  | _ => true
theorem Den.one {E : Val} {ρ : Rho} {v : SV} {u : Value} (h : Den E ρ v u) (k : v.one = true) : u.oneCell' = true := by
  cases v
  case bool => cases h; rfl
  case int => cases h; rfl
  case str => rw [h.2]; rfl
  case nptr => cases h; rfl
  case ptr => obtain ⟨p, _, rfl⟩ := h; rfl
  case nslice => cases h; rfl
  case slice =>
    obtain ⟨p, _, h⟩ := h
    rcases h with ⟨rfl, _⟩ | ⟨_, _, ⟨a, rfl⟩, _⟩ <;> rfl
  case nfunc => cases h; rfl
  case func => obtain ⟨a, b, _, _, rfl⟩ := h; rfl
  case yield => obtain ⟨p, _, rfl⟩ := h; rfl
  case niface => cases h; rfl
  case iface => obtain ⟨p, _, rfl⟩ := h; rfl
  case agg => simp [SV.one] at k
  case tup => simp [SV.one] at k
  case atom => rw [h.2]; exact h.1
  case txt => rw [h.2]; rfl
  case map => obtain ⟨p, _, rfl⟩ := h; rfl
  case nmap => cases h; rfl
  case any => simp [SV.one] at k
  case asl => obtain ⟨_, _, _, _, av, c, rfl, _⟩ := h; rfl
  case elt => obtain ⟨_, _, rfl, _⟩ := h; rfl
  case belt => obtain ⟨_, _, _, _, rfl, _⟩ := h; rfl
  case side => cases h; rfl
theorem cells_one {u : Value} (h : u.oneCell' = true) : u.cells = #[u] := by
  cases u <;> first | rfl | simp [Value.oneCell'] at h
/-- The cells of a value. -/
noncomputable def SV.cells : SV → List SV
  | .agg l => l
  | v => [v]
theorem Den.cells {E : Val} {ρ : Rho} {v : SV} {u : Value} (h : Den E ρ v u) (k : ∀ l, v ≠ .tup l) (k2 : v ≠ .any) : DenL E ρ v.cells u.cells.toList := by
  by_cases ho : v.one = true
  · have hu := Den.one h ho
    rw [cells_one hu]
    have : v.cells = [v] := by cases v <;> first | rfl | simp [SV.one] at ho
    rw [this]
    exact ⟨u, [], h, rfl, rfl⟩
  · cases v <;> simp [SV.one] at ho
    case agg l => obtain ⟨a, ha, rfl⟩ := h; simpa [Value.cells, SV.cells] using ha
    case tup l => exact absurd rfl (k l)
    case any => exact absurd rfl k2
/-- A literal of the program. -/
noncomputable def ofCell : Value → R SV
  | .bool b => .ok (.bool b)
  | .int k n => .ok (.int k (.lit n))
  | .string s => .ok (.str (s.data.toList.map UInt8.toNat))
  | .pointer none => .ok .nptr
  | .slice none 0 0 => .ok .nslice
  | .nilFunc => .ok .nfunc
  | .nilIface => .ok .niface
  | .map none => .ok .nmap
  | .func (.func f) a b => if a.size = 0 ∧ b.size = 0 then .ok (.func f [] []) else .no "ofCell: func"
  | _ => .no "ofCell"
noncomputable def ofValue : Value → R SV
  | .agg cs => (mapR ofCell cs.toList).bind fun l => .ok (.agg l)
  | .tuple vs => if vs.size = 0 then .ok (.tup []) else .no "ofValue: tuple"
  | v => ofCell v
theorem bytes_back (s : ByteArray) : bytesOf (s.data.toList.map UInt8.toNat) = s := by
  have : (s.data.toList.map UInt8.toNat).map UInt8.ofNat = s.data.toList := by
    rw [List.map_map]
    conv => rhs; rw [← List.map_id s.data.toList]
    apply List.map_congr_left
    intro x _
    simp
  unfold bytesOf
  rw [this]
theorem ofCell_ok {E : Val} {ρ : Rho} {u : Value} {v : SV} (h : ofCell u = .ok v) : Den E ρ v u := by
  unfold ofCell at h
  split at h <;> first | (cases h; rfl) | skip
  · cases h
    refine ⟨?_, (congrArg Value.string (bytes_back _)).symm⟩
    simp only [List.all_eq_true, List.mem_map, decide_eq_true_eq]
    rintro _ ⟨x, _, rfl⟩
    exact x.toNat_lt
  · split at h
    · rename_i f a b hz
      cases h
      refine ⟨[], [], rfl, rfl, ?_⟩
      have ha : a = #[] := Array.eq_empty_of_size_eq_zero hz.1
      have hb : b = #[] := Array.eq_empty_of_size_eq_zero hz.2
      rw [ha, hb]
    · cases h
  · cases h
theorem mapR_ofCell_ok {E : Val} {ρ : Rho} : ∀ {us : List Value} {l : List SV}, mapR ofCell us = .ok l → DenL E ρ l us
  | [], l, h => by simp [mapR] at h; subst h; rfl
  | u :: us, l, h => by
    simp only [mapR, R.bind_ok] at h
    obtain ⟨a, h1, b, h2, h3⟩ := h
    cases h3
    exact ⟨u, us, ofCell_ok h1, mapR_ofCell_ok h2, rfl⟩
theorem ofValue_ok {E : Val} {ρ : Rho} {u : Value} {v : SV} (h : ofValue u = .ok v) : Den E ρ v u := by
  unfold ofValue at h
  split at h
  · simp only [R.bind_ok] at h
    obtain ⟨l, h1, h2⟩ := h
    cases h2
    exact ⟨_, mapR_ofCell_ok h1, rfl⟩
  · split at h
    · rename_i vs hz
      cases h
      refine ⟨[], rfl, ?_⟩
      rw [Array.eq_empty_of_size_eq_zero hz]
    · cases h
  · exact ofCell_ok h
/-! ### Texts as values -/
noncomputable def SV.chars : SV → Option (List Ch)
  | .str s => some (s.map Ch.c)
  | .txt l => some l
  | _ => none
theorem SV.chars_ok {E : Val} {ρ : Rho} {v : SV} {u : Value} {l : List Ch} (h : Den E ρ v u) (k : v.chars = some l) : chWf l = true ∧ u = .string ⟨(chDen E.I l).toArray⟩ := by
  cases v <;> simp only [SV.chars, Option.some.injEq, reduceCtorEq] at k
  case str s => subst k; exact ⟨by rw [chWf_c]; exact h.1, by rw [h.2, chDen_c]; rfl⟩
  case txt => subst k; exact h
/-- A text, of bytes alone or not. -/
noncomputable def mkTxt (l : List Ch) : SV := match chLits l with | some s => .str s | none => .txt l
theorem mkTxt_ok {E : Val} {ρ : Rho} {l : List Ch} (h : chWf l = true) : Den E ρ (mkTxt l) (.string ⟨(chDen E.I l).toArray⟩) := by
  unfold mkTxt
  split
  · rename_i s hs
    rw [chLits_ok hs] at h ⊢
    rw [chWf_c] at h
    exact ⟨h, by rw [chDen_c]; rfl⟩
  · exact ⟨h, rfl⟩
noncomputable def txtCmp (A : Asm) (x y : SV) : R Bool := (ofOpt x.chars "text: left").bind fun a => (ofOpt y.chars "text: right").bind fun b => chEq A a b
end Go.Proofs.YtfiangiajhdhcaaDoor
