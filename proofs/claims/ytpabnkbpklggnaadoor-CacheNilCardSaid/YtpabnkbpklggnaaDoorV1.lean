/- The reckoner. -/
import Derived.RangeFuncLeaves
import Derived.OrdersIn
import Derived.LoopNIn
import Derived.Below
namespace Go.Proofs.YtpabnkbpklggnaaDoor
open Go.RowKit
set_option linter.unusedVariables false
set_option maxRecDepth 100000

/-- Numbers that are not known. -/
inductive IE where
  | lit (n : Int)
  | at (i : Nat)
  | bin (op : BinOp) (k : IntKind) (a b : IE)
  | conv (k : IntKind) (a : IE)
/-- Why the reckoner has no answer: a word, or a comparison that is not decided. -/
inductive Why where
  | msg (s : String)
  | ask (op : BinOp) (a b : IE)
instance : Coe String Why := ⟨.msg⟩
/-- The outcome of the reckoner: a value, or why there is none. -/
inductive R (α : Type) where
  | ok (a : α)
  | no (why : Why)
def R.bind {α β : Type} : R α → (α → R β) → R β
  | .ok a, f => f a
  | .no s, _ => .no s
def need (b : Bool) (why : String) : R Unit := if b then .ok () else .no why
def ofOpt {α : Type} (o : Option α) (why : String) : R α := match o with | some a => .ok a | none => .no why
theorem R.bind_ok {α β : Type} {x : R α} {f : α → R β} {b : β} : x.bind f = .ok b ↔ ∃ a, x = .ok a ∧ f a = .ok b := by
  cases x <;> simp [R.bind]
theorem need_ok {b : Bool} {s : String} {u : Unit} : need b s = .ok u ↔ b = true := by
  cases b <;> simp [need]
theorem ofOpt_ok {α : Type} {o : Option α} {s : String} {a : α} : ofOpt o s = .ok a ↔ o = some a := by
  cases o <;> simp [ofOpt]
def mapR {α β : Type} (f : α → R β) : List α → R (List β)
  | [] => .ok []
  | a :: l => (f a).bind fun b => (mapR f l).bind fun bs => .ok (b :: bs)

/-! ### A map whose keys are numbers -/
inductive Tr (α : Type) where
  | nil
  | node (v : Option α) (l r : Tr α)
namespace Tr
variable {α : Type}
def getF : Nat → Tr α → Nat → Option α
  | _, .nil, _ => none
  | 0, _, _ => none
  | f + 1, .node v l r, k => match k with
    | 0 => v
    | m + 1 => if m % 2 = 0 then getF f l (m / 2) else getF f r (m / 2)
def get (t : Tr α) (k : Nat) : Option α := getF (k + 1) t k
def putF : Nat → Tr α → Nat → Option α → Tr α
  | 0, t, _, _ => t
  | f + 1, .nil, k, x => match k with
    | 0 => .node x .nil .nil
    | m + 1 => if m % 2 = 0 then .node none (putF f .nil (m / 2) x) .nil else .node none .nil (putF f .nil (m / 2) x)
  | f + 1, .node v l r, k, x => match k with
    | 0 => .node x l r
    | m + 1 => if m % 2 = 0 then .node v (putF f l (m / 2) x) r else .node v l (putF f r (m / 2) x)
def put (t : Tr α) (k : Nat) (x : Option α) : Tr α := putF (k + 1) t k x
def set (t : Tr α) (k : Nat) (x : α) : Tr α := t.put k (some x)
def del (t : Tr α) (k : Nat) : Tr α := t.put k none
theorem getF_more : ∀ (f g : Nat) (t : Tr α) (k : Nat), k < f → k < g → getF f t k = getF g t k := by
  intro f
  induction f with
  | zero => intro g t k h; omega
  | succ f ih =>
    intro g t k hf hg
    cases g with
    | zero => omega
    | succ g =>
      cases t with
      | nil => rfl
      | node v l r =>
        cases k with
        | zero => rfl
        | succ m =>
          simp only [getF]
          split
          · exact ih g l (m / 2) (by omega) (by omega)
          · exact ih g r (m / 2) (by omega) (by omega)
theorem getF_nil (f k : Nat) : getF f (.nil : Tr α) k = none := by cases f <;> rfl
theorem getF_putF : ∀ (f : Nat) (t : Tr α) (k j : Nat) (x : Option α), k < f → j < f → getF f (putF f t k x) j = if j = k then x else getF f t j := by
  intro f
  induction f with
  | zero => intro t k j x h; omega
  | succ f ih =>
    intro t k j x hk hj
    cases t with
    | nil =>
      cases k with
      | zero =>
        cases j with
        | zero => simp [putF, getF]
        | succ j => simp [putF, getF, getF_nil]
      | succ m =>
        by_cases hm : m % 2 = 0
        · cases j with
          | zero => simp [putF, getF, hm]
          | succ j =>
            by_cases hj2 : j % 2 = 0
            · simp only [putF, hm, if_true, getF, hj2, ih .nil (m / 2) (j / 2) x (by omega) (by omega), getF_nil]
              by_cases e : j = m
              · subst e; simp
              · have : j / 2 ≠ m / 2 := by omega
                simp [e, this]
            · have : j ≠ m := by rintro rfl; exact hj2 hm
              simp [putF, hm, getF, hj2, getF_nil, this]
        · cases j with
          | zero => simp [putF, getF, hm]
          | succ j =>
            by_cases hj2 : j % 2 = 0
            · have : j ≠ m := by rintro rfl; exact hm hj2
              simp [putF, hm, getF, hj2, getF_nil, this]
            · simp only [putF, hm, if_false, getF, hj2, ih .nil (m / 2) (j / 2) x (by omega) (by omega), getF_nil]
              by_cases e : j = m
              · subst e; simp
              · have : j / 2 ≠ m / 2 := by omega
                simp [e, this]
    | node v l r =>
      cases k with
      | zero =>
        cases j with
        | zero => simp [putF, getF]
        | succ j => simp [putF, getF]
      | succ m =>
        by_cases hm : m % 2 = 0
        · cases j with
          | zero => simp [putF, getF, hm]
          | succ j =>
            by_cases hj2 : j % 2 = 0
            · simp only [putF, hm, if_true, getF, hj2, ih l (m / 2) (j / 2) x (by omega) (by omega)]
              by_cases e : j = m
              · subst e; simp
              · have : j / 2 ≠ m / 2 := by omega
                simp [e, this]
            · have : j ≠ m := by rintro rfl; exact hj2 hm
              simp [putF, hm, getF, hj2, this]
        · cases j with
          | zero => simp [putF, getF, hm]
          | succ j =>
            by_cases hj2 : j % 2 = 0
            · have : j ≠ m := by rintro rfl; exact hm hj2
              simp [putF, hm, getF, hj2, this]
            · simp only [putF, hm, if_false, getF, hj2, ih r (m / 2) (j / 2) x (by omega) (by omega)]
              by_cases e : j = m
              · subst e; simp
              · have : j / 2 ≠ m / 2 := by omega
                simp [e, this]
theorem putF_more : ∀ (f g : Nat) (t : Tr α) (k : Nat) (x : Option α), k < f → k < g → putF f t k x = putF g t k x := by
  intro f
  induction f with
  | zero => intro g t k x h; omega
  | succ f ih =>
    intro g t k x hf hg
    cases g with
    | zero => omega
    | succ g =>
      cases t with
      | nil =>
        cases k with
        | zero => rfl
        | succ m =>
          simp only [putF]
          rw [ih g .nil (m / 2) x (by omega) (by omega)]
      | node v l r =>
        cases k with
        | zero => rfl
        | succ m =>
          simp only [putF]
          rw [ih g l (m / 2) x (by omega) (by omega), ih g r (m / 2) x (by omega) (by omega)]
theorem get_put (t : Tr α) (k j : Nat) (x : Option α) : (t.put k x).get j = if j = k then x else t.get j := by
  unfold get put
  rw [putF_more (k + 1) (k + j + 1) t k x (by omega) (by omega), getF_more (j + 1) (k + j + 1) _ j (by omega) (by omega), getF_putF _ _ _ _ _ (by omega) (by omega),
    getF_more (j + 1) (k + j + 1) t j (by omega) (by omega)]
theorem get_set (t : Tr α) (k j : Nat) (x : α) : (t.set k x).get j = if j = k then some x else t.get j := get_put t k j _
theorem get_del (t : Tr α) (k j : Nat) : (t.del k).get j = if j = k then none else t.get j := get_put t k j _
theorem get_nil (j : Nat) : (Tr.nil : Tr α).get j = none := rfl
end Tr

/-! ### Numbers that are not known, and what is known of them -/
def IE.beq : IE → IE → Bool
  | .lit a, .lit b => a == b
  | .at i, .at j => i == j
  | .bin o k a b, .bin p l c d => decide (o = p) && (decide (k = l) && (IE.beq a c && IE.beq b d))
  | .conv k a, .conv l b => decide (k = l) && IE.beq a b
  | _, _ => false
theorem IE.eq_of_beq : ∀ {a b : IE}, IE.beq a b = true → a = b
  | .lit _, .lit _, h => by simp [IE.beq] at h; rw [h]
  | .at _, .at _, h => by simp [IE.beq] at h; rw [h]
  | .bin .., .bin .., h => by
    simp [IE.beq] at h
    obtain ⟨rfl, rfl, h1, h2⟩ := h
    rw [IE.eq_of_beq h1, IE.eq_of_beq h2]
  | .conv .., .conv .., h => by
    simp [IE.beq] at h
    obtain ⟨rfl, h1⟩ := h
    rw [IE.eq_of_beq h1]
  | .lit _, .at _, h => by simp [IE.beq] at h
  | .lit _, .bin .., h => by simp [IE.beq] at h
  | .lit _, .conv .., h => by simp [IE.beq] at h
  | .at _, .lit _, h => by simp [IE.beq] at h
  | .at _, .bin .., h => by simp [IE.beq] at h
  | .at _, .conv .., h => by simp [IE.beq] at h
  | .bin .., .lit _, h => by simp [IE.beq] at h
  | .bin .., .at _, h => by simp [IE.beq] at h
  | .bin .., .conv .., h => by simp [IE.beq] at h
  | .conv .., .lit _, h => by simp [IE.beq] at h
  | .conv .., .at _, h => by simp [IE.beq] at h
  | .conv .., .bin .., h => by simp [IE.beq] at h
/-- Sums and the like, as the model has them. -/
def arith (op : BinOp) (k : IntKind) (x y : Int) : Int :=
  match op with
  | .add => k.wrap (x + y)
  | .sub => k.wrap (x - y)
  | .mul => k.wrap (x * y)
  | .quo => k.wrap (x.tdiv y)
  | .rem => x.tmod y
  | _ => 0
def cmpD (op : BinOp) (x y : Int) : Bool :=
  match op with
  | .eql => x == y
  | .neq => x != y
  | .lss => decide (x < y)
  | .leq => decide (x ≤ y)
  | .gtr => decide (x > y)
  | _ => decide (x ≥ y)
def IE.den (I : Nat → Int) : IE → Int
  | .lit n => n
  | .at i => I i
  | .bin op k a b => arith op k (a.den I) (b.den I)
  | .conv k a => k.wrap (a.den I)

/-- What is known: sides of comparisons, and which number a sum is. -/
structure Asm where
  cmps : List (BinOp × IE × IE × Bool) := []
  eqs : List (IE × IE) := []
def Asm.findC (op : BinOp) (a b : IE) : List (BinOp × IE × IE × Bool) → Option Bool
  | [] => none
  | (o, x, y, r) :: l => if decide (o = op) && (x.beq a && y.beq b) then some r else Asm.findC op a b l
def Asm.findE (a : IE) : List (IE × IE) → IE
  | [] => a
  | (x, y) :: l => if x.beq a then y else Asm.findE a l
structure Asm.Holds (A : Asm) (I : Nat → Int) : Prop where
  cmps : ∀ o x y r, (o, x, y, r) ∈ A.cmps → cmpD o (x.den I) (y.den I) = r
  eqs : ∀ x y, (x, y) ∈ A.eqs → x.den I = y.den I
theorem Asm.findC_ok {I : Nat → Int} {op : BinOp} {a b : IE} {r : Bool} : ∀ {l : List (BinOp × IE × IE × Bool)}, (∀ o x y r, (o, x, y, r) ∈ l → cmpD o (x.den I) (y.den I) = r) →
    Asm.findC op a b l = some r → cmpD op (a.den I) (b.den I) = r
  | [], _, h => by simp [Asm.findC] at h
  | (o, x, y, s) :: l, hl, h => by
    simp only [Asm.findC] at h
    split at h
    · rename_i hc
      simp only [Bool.and_eq_true, decide_eq_true_eq] at hc
      obtain ⟨rfl, h1, h2⟩ := hc
      injection h with h
      rw [← IE.eq_of_beq h1, ← IE.eq_of_beq h2, ← h]
      exact hl _ _ _ _ (by simp)
    · exact Asm.findC_ok (fun o x y r hm => hl o x y r (by simp [hm])) h
theorem Asm.findE_ok {I : Nat → Int} {a : IE} : ∀ {l : List (IE × IE)}, (∀ x y, (x, y) ∈ l → x.den I = y.den I) → (Asm.findE a l).den I = a.den I
  | [], _ => rfl
  | (x, y) :: l, hl => by
    simp only [Asm.findE]
    split
    · rename_i h
      rw [← IE.eq_of_beq h]
      exact (hl x y (by simp)).symm
    · exact Asm.findE_ok (fun x y hm => hl x y (by simp [hm]))
/-- Bounds of a number, as far as they are known. -/
structure Ivl where
  lo : Option Int
  hi : Option Int
def Ivl.low (v : Ivl) (n : Int) : Ivl := { v with lo := match v.lo with | some m => some (max m n) | none => some n }
def Ivl.high (v : Ivl) (n : Int) : Ivl := { v with hi := match v.hi with | some m => some (min m n) | none => some n }
def Ivl.cut (v : Ivl) (n : Int) : Ivl := { lo := match v.lo with | some m => if m = n then some (n + 1) else some m | none => none, hi := match v.hi with | some m => if m = n then some (n - 1) else some m | none => none }
def Ivl.fact (v : Ivl) (op : BinOp) (n : Int) (r : Bool) : Ivl :=
  match op, r with
  | .eql, true => (v.low n).high n
  | .neq, false => (v.low n).high n
  | .lss, true => v.high (n - 1)
  | .lss, false => v.low n
  | .leq, true => v.high n
  | .leq, false => v.low (n + 1)
  | .gtr, true => v.low (n + 1)
  | .gtr, false => v.high n
  | .geq, true => v.low n
  | .geq, false => v.high (n - 1)
  | .eql, false => v.cut n
  | .neq, true => v.cut n
  | _, _ => v
def Ivl.of (e : IE) (v : Ivl) : List (BinOp × IE × IE × Bool) → Ivl
  | [] => v
  | (op, x, .lit n, r) :: l => if x.beq e then (Ivl.of e v l).fact op n r else Ivl.of e v l
  | _ :: l => Ivl.of e v l
def Ivl.ofIE (e : IE) (l : List (BinOp × IE × IE × Bool)) : Ivl :=
  match e with
  | .lit n => ⟨some n, some n⟩
  | e => Ivl.of e (Ivl.of e ⟨none, none⟩ l) l
def Ivl.Holds (v : Ivl) (x : Int) : Prop := (∀ m, v.lo = some m → m ≤ x) ∧ (∀ m, v.hi = some m → x ≤ m)
theorem Ivl.low_ok {v : Ivl} {x n : Int} (h : v.Holds x) (hn : n ≤ x) : (v.low n).Holds x := by
  refine ⟨fun m hm => ?_, h.2⟩
  simp only [Ivl.low] at hm
  split at hm
  · rename_i k hk; injection hm with hm; have := h.1 k hk; omega
  · injection hm with hm; omega
theorem Ivl.high_ok {v : Ivl} {x n : Int} (h : v.Holds x) (hn : x ≤ n) : (v.high n).Holds x := by
  refine ⟨h.1, fun m hm => ?_⟩
  simp only [Ivl.high] at hm
  split at hm
  · rename_i k hk; injection hm with hm; have := h.2 k hk; omega
  · injection hm with hm; omega
theorem Ivl.cut_ok {v : Ivl} {x n : Int} (h : v.Holds x) (hn : x ≠ n) : (v.cut n).Holds x := by
  refine ⟨fun m hm => ?_, fun m hm => ?_⟩
  · simp only [Ivl.cut] at hm
    split at hm
    · rename_i k hk
      have := h.1 k hk
      split at hm <;> (injection hm with hm; omega)
    · cases hm
  · simp only [Ivl.cut] at hm
    split at hm
    · rename_i k hk
      have := h.2 k hk
      split at hm <;> (injection hm with hm; omega)
    · cases hm
theorem Ivl.fact_ok {v : Ivl} {x n : Int} {op : BinOp} {r : Bool} (h : v.Holds x) (hc : cmpD op x n = r) : (v.fact op n r).Holds x := by
  unfold Ivl.fact
  split <;> simp only [cmpD, beq_iff_eq, bne_eq_false_iff_eq, decide_eq_true_eq, decide_eq_false_iff_not, beq_eq_false_iff_ne, bne_iff_ne] at hc
  · exact Ivl.high_ok (Ivl.low_ok h (by omega)) (by omega)
  · exact Ivl.high_ok (Ivl.low_ok h (by omega)) (by omega)
  · exact Ivl.high_ok h (by omega)
  · exact Ivl.low_ok h (by omega)
  · exact Ivl.high_ok h (by omega)
  · exact Ivl.low_ok h (by omega)
  · exact Ivl.low_ok h (by omega)
  · exact Ivl.high_ok h (by omega)
  · exact Ivl.low_ok h (by omega)
  · exact Ivl.high_ok h (by omega)
  · exact Ivl.cut_ok h hc
  · exact Ivl.cut_ok h hc
  · exact h
theorem Ivl.of_ok {I : Nat → Int} {e : IE} {v : Ivl} (hv : v.Holds (e.den I)) : ∀ {l : List (BinOp × IE × IE × Bool)}, (∀ o x y r, (o, x, y, r) ∈ l → cmpD o (x.den I) (y.den I) = r) → (Ivl.of e v l).Holds (e.den I)
  | [], _ => hv
  | (o, x, .lit n, r) :: l, hl => by
    have ih := Ivl.of_ok hv (l := l) (fun o x y r hm => hl o x y r (by simp [hm]))
    simp only [Ivl.of]
    split
    · rename_i hb
      have := hl o x (.lit n) r (by simp)
      rw [IE.eq_of_beq hb] at this
      exact Ivl.fact_ok ih this
    · exact ih
  | (o, x, .at i, r) :: l, hl => by simp only [Ivl.of]; exact Ivl.of_ok hv (fun o x y r hm => hl o x y r (by simp [hm]))
  | (o, x, .bin .., r) :: l, hl => by simp only [Ivl.of]; exact Ivl.of_ok hv (fun o x y r hm => hl o x y r (by simp [hm]))
  | (o, x, .conv .., r) :: l, hl => by simp only [Ivl.of]; exact Ivl.of_ok hv (fun o x y r hm => hl o x y r (by simp [hm]))
theorem Ivl.ofIE_ok {I : Nat → Int} {e : IE} {l : List (BinOp × IE × IE × Bool)} (hl : ∀ o x y r, (o, x, y, r) ∈ l → cmpD o (x.den I) (y.den I) = r) : (Ivl.ofIE e l).Holds (e.den I) := by
  unfold Ivl.ofIE
  split
  · exact ⟨fun m h => by injection h with h; simp only [IE.den]; omega, fun m h => by injection h with h; simp only [IE.den]; omega⟩
  · exact Ivl.of_ok (Ivl.of_ok ⟨fun m h => (by cases h), fun m h => (by cases h)⟩ hl) hl
/-- Is the one below the other (strict: truly), for all that is known? -/
def Ivl.below (strict : Bool) (v u : Ivl) : Bool :=
  match v.hi, u.lo with
  | some m, some n => if strict then decide (m < n) else decide (m ≤ n)
  | _, _ => false
theorem Ivl.below_ok {v u : Ivl} {x y : Int} (hv : v.Holds x) (hu : u.Holds y) : (Ivl.below true v u = true → x < y) ∧ (Ivl.below false v u = true → x ≤ y) := by
  unfold Ivl.below
  split
  · rename_i m n hm hn
    have h1 := hv.2 m hm
    have h2 := hu.1 n hn
    constructor
    · intro h; simp at h; omega
    · intro h; simp at h; omega
  · exact ⟨fun h => by simp at h, fun h => by simp at h⟩
def Ivl.decide (op : BinOp) (v u : Ivl) : Option Bool :=
  match op with
  | .eql => if Ivl.below true v u || Ivl.below true u v then some false else if Ivl.below false v u && Ivl.below false u v then some true else none
  | .neq => if Ivl.below true v u || Ivl.below true u v then some true else if Ivl.below false v u && Ivl.below false u v then some false else none
  | .lss => if Ivl.below true v u then some true else if Ivl.below false u v then some false else none
  | .leq => if Ivl.below false v u then some true else if Ivl.below true u v then some false else none
  | .gtr => if Ivl.below true u v then some true else if Ivl.below false v u then some false else none
  | .geq => if Ivl.below false u v then some true else if Ivl.below true v u then some false else none
  | _ => none
theorem Ivl.decide_ok {op : BinOp} {v u : Ivl} {x y : Int} {r : Bool} (hv : v.Holds x) (hu : u.Holds y) (h : Ivl.decide op v u = some r) : cmpD op x y = r := by
  obtain ⟨a1, a2⟩ := Ivl.below_ok hv hu
  obtain ⟨b1, b2⟩ := Ivl.below_ok hu hv
  unfold Ivl.decide at h
  split at h <;> first | cases h | skip
  all_goals
    split at h
    · rename_i hc
      cases h
      try simp only [Bool.or_eq_true] at hc
      first
        | (rcases hc with hc | hc
           · have := a1 hc; simp [cmpD]; omega
           · have := b1 hc; simp [cmpD]; omega)
        | (have := a1 hc; simp [cmpD]; omega)
        | (have := a2 hc; simp [cmpD]; omega)
        | (have := b1 hc; simp [cmpD]; omega)
        | (have := b2 hc; simp [cmpD]; omega)
    · split at h
      · rename_i hc
        cases h
        try simp only [Bool.and_eq_true] at hc
        first
          | (have := a2 hc.1; have := b2 hc.2; simp [cmpD]; omega)
          | (have := a1 hc; simp [cmpD]; omega)
          | (have := a2 hc; simp [cmpD]; omega)
          | (have := b1 hc; simp [cmpD]; omega)
          | (have := b2 hc; simp [cmpD]; omega)
      · cases h
/-- A comparison, decided by the numbers or by what is known. -/
def cmpI (A : Asm) (op : BinOp) (a b : IE) : R Bool :=
  match a, b with
  | .lit x, .lit y => .ok (cmpD op x y)
  | a, b => if a.beq b then .ok (cmpD op 0 0) else match Asm.findC op a b A.cmps with
    | some r => .ok r
    | none => match Ivl.decide op (Ivl.ofIE a A.cmps) (Ivl.ofIE b A.cmps) with
      | some r => .ok r
      | none => .no (.ask op a b)
theorem cmpI_ok {A : Asm} {I : Nat → Int} (hA : A.Holds I) {op : BinOp} {a b : IE} {r : Bool} (h : cmpI A op a b = .ok r) : cmpD op (a.den I) (b.den I) = r := by
  unfold cmpI at h
  split at h
  · injection h
  · split at h
    · rename_i hb
      rw [IE.eq_of_beq hb]
      injection h with h
      rw [← h]
      cases op <;> simp [cmpD]
    · split at h
      · rename_i hc
        cases h
        exact Asm.findC_ok hA.cmps hc
      · split at h
        · rename_i hc
          cases h
          exact Ivl.decide_ok (Ivl.ofIE_ok hA.cmps) (Ivl.ofIE_ok hA.cmps) hc
        · cases h
/-- A number that must be known: a letter that can be but one, or else it is asked. -/
def concI (A : Asm) (e : IE) : R Int :=
  match e with
  | .lit n => .ok n
  | e => match (Ivl.ofIE e A.cmps).lo, (Ivl.ofIE e A.cmps).hi with
    | some m, some n => if m = n then .ok m else if n - m ≤ 64 then .no (.ask .eql e (.lit m)) else .no (.msg "a number that is not known")
    | _, _ => .no (.msg "a number that is not known")
theorem concI_ok {A : Asm} {I : Nat → Int} (hA : A.Holds I) {e : IE} {n : Int} (h : concI A e = .ok n) : e.den I = n := by
  unfold concI at h
  split at h
  · injection h
  · split at h
    · rename_i m k hm hk
      split at h
      · rename_i hmk
        injection h with h
        have := Ivl.ofIE_ok (e := e) hA.cmps
        have h1 := this.1 m hm
        have h2 := this.2 k hk
        omega
      · split at h <;> cases h
    · cases h
def binI (A : Asm) (op : BinOp) (k : IntKind) (a b : IE) : IE :=
  match a, b with
  | .lit x, .lit y => .lit (arith op k x y)
  | a, b => Asm.findE (.bin op k a b) A.eqs
theorem binI_ok {A : Asm} {I : Nat → Int} (hA : A.Holds I) (op : BinOp) (k : IntKind) (a b : IE) : (binI A op k a b).den I = arith op k (a.den I) (b.den I) := by
  unfold binI
  split
  · rfl
  · exact Asm.findE_ok hA.eqs
def convI (A : Asm) (k : IntKind) (a : IE) : IE :=
  match a with
  | .lit x => .lit (k.wrap x)
  | a => Asm.findE (.conv k a) A.eqs
theorem convI_ok {A : Asm} {I : Nat → Int} (hA : A.Holds I) (k : IntKind) (a : IE) : (convI A k a).den I = k.wrap (a.den I) := by
  unfold convI
  split
  · rfl
  · exact Asm.findE_ok hA.eqs

/-! ### Values whose blocks have names -/
inductive SV where
  | bool (b : Bool)
  | int (k : IntKind) (e : IE)
  | str (s : List Nat)
  | nptr
  | ptr (s off : Nat)
  | nslice
  | slice (s off len : Nat) (cap : Option Nat) (sz : Nat)
  | nfunc
  | func (f : FuncId) (first cap : List SV)
  | yield (s : Nat)
  | niface
  | iface (t : TypeId) (v : SV)
  | agg (l : List SV)
  | tup (l : List SV)
  | atom (i : Nat)
instance : Inhabited SV := ⟨.tup []⟩
/-- Where a named block lies: its number, the cell at which it begins, and how many cells are its own. -/
structure Place where
  b : Nat
  o : Nat
  e : Nat
def bytesOf (s : List Nat) : ByteArray := ⟨(s.map UInt8.ofNat).toArray⟩
/-- The numbers and values that the letters stand for. -/
structure Val where
  I : Nat → Int
  V : Nat → Value
abbrev Rho := Nat → Option Place
mutual
/-- What a value whose blocks have names may be. -/
def Den (E : Val) (ρ : Rho) : SV → Value → Prop
  | .bool b, u => u = .bool b
  | .int k e, u => u = .int k (e.den E.I)
  | .str s, u => s.all (· < 256) = true ∧ u = .string (bytesOf s)
  | .nptr, u => u = .pointer none
  | .ptr s off, u => ∃ p, ρ s = some p ∧ u = .pointer (some ⟨p.b, p.o + off, none⟩)
  | .nslice, u => u = .slice none 0 0
  | .slice s off len cap sz, u => ∃ p, ρ s = some p ∧ ((u = .slice (some ⟨p.b, p.o + off, none⟩) len (cap.getD ((p.e - off) / sz)) ∧ len ≤ cap.getD ((p.e - off) / sz) ∧ 0 < sz) ∨ (len = 0 ∧ cap = none ∧ (∃ a : Addr, u = .slice (some a) 0 0) ∧ (p.e - off) / sz = 0 ∧ 0 < sz))
  | .nfunc, u => u = .nilFunc
  | .func f first cap, u => ∃ a b, DenL E ρ first a ∧ DenL E ρ cap b ∧ u = .func (.func f) a.toArray b.toArray
  | .yield s, u => ∃ p, ρ s = some p ∧ u = .func (.yield p.b) #[] #[]
  | .niface, u => u = .nilIface
  | .iface t v, u => ∃ x, Den E ρ v x ∧ u = .iface t x
  | .agg l, u => ∃ a, DenL E ρ l a ∧ u = .agg a.toArray
  | .tup l, u => ∃ a, DenL E ρ l a ∧ u = .tuple a.toArray
  | .atom i, u => (E.V i).oneCell' = true ∧ u = E.V i
def DenL (E : Val) (ρ : Rho) : List SV → List Value → Prop
  | [], us => us = []
  | v :: l, us => ∃ u t, Den E ρ v u ∧ DenL E ρ l t ∧ us = u :: t
end
def Rho.le (ρ ρ' : Rho) : Prop := ∀ s p, ρ s = some p → ρ' s = some p
theorem Rho.le.refl (ρ : Rho) : ρ.le ρ := fun _ _ h => h
theorem Rho.le.trans {a b c : Rho} (h : a.le b) (k : b.le c) : a.le c := fun s p e => k s p (h s p e)
mutual
theorem Den.mono {E : Val} {ρ ρ' : Rho} (h : ρ.le ρ') : ∀ {v : SV} {u : Value}, Den E ρ v u → Den E ρ' v u
  | .bool _, _, e => e
  | .int _ _, _, e => e
  | .str _, _, e => e
  | .nptr, _, e => e
  | .ptr s off, u, e => by
    obtain ⟨p, hp, e⟩ := e
    exact ⟨p, h _ _ hp, e⟩
  | .nslice, _, e => e
  | .slice .., u, e => by
    obtain ⟨p, hp, e⟩ := e
    exact ⟨p, h _ _ hp, e⟩
  | .nfunc, _, e => e
  | .func f first cap, u, e => by
    obtain ⟨a, b, ha, hb, e⟩ := e
    exact ⟨a, b, DenL.mono h ha, DenL.mono h hb, e⟩
  | .yield _, u, e => by
    obtain ⟨p, hp, e⟩ := e
    exact ⟨p, h _ _ hp, e⟩
  | .niface, _, e => e
  | .iface t v, u, e => by
    obtain ⟨p, hp, e⟩ := e
    exact ⟨p, Den.mono h hp, e⟩
  | .agg l, u, e => by
    obtain ⟨p, hp, e⟩ := e
    exact ⟨p, DenL.mono h hp, e⟩
  | .tup l, u, e => by
    obtain ⟨p, hp, e⟩ := e
    exact ⟨p, DenL.mono h hp, e⟩
  | .atom _, _, e => e
theorem DenL.mono {E : Val} {ρ ρ' : Rho} (h : ρ.le ρ') : ∀ {l : List SV} {u : List Value}, DenL E ρ l u → DenL E ρ' l u
  | [], _, e => e
  | v :: l, u, e => by
    obtain ⟨a, b, ha, hb, e⟩ := e
    exact ⟨a, b, Den.mono h ha, DenL.mono h hb, e⟩
end
section
variable {E : Val} {ρ : Rho}
theorem DenL.nil : DenL E ρ [] [] := rfl
theorem DenL.cons {v : SV} {l : List SV} {u : Value} {us : List Value} (h : Den E ρ v u) (k : DenL E ρ l us) : DenL E ρ (v :: l) (u :: us) := ⟨u, us, h, k, rfl⟩
theorem DenL.length : ∀ {l : List SV} {us : List Value}, DenL E ρ l us → us.length = l.length
  | [], us, h => by cases h; rfl
  | v :: l, us, h => by
    obtain ⟨u, t, _, h2, rfl⟩ := h
    simp [DenL.length h2]
theorem DenL.get : ∀ {l : List SV} {us : List Value} {i : Nat} {v : SV}, DenL E ρ l us → l[i]? = some v → ∃ u, us[i]? = some u ∧ Den E ρ v u
  | [], us, i, v, h, hi => by simp at hi
  | w :: l, us, i, v, h, hi => by
    obtain ⟨u, t, h1, h2, rfl⟩ := h
    cases i with
    | zero => simp at hi; subst hi; exact ⟨u, rfl, h1⟩
    | succ i => simp at hi; obtain ⟨x, hx, hd⟩ := DenL.get h2 hi; exact ⟨x, by simpa using hx, hd⟩
theorem DenL.append : ∀ {l m : List SV} {us vs : List Value}, DenL E ρ l us → DenL E ρ m vs → DenL E ρ (l ++ m) (us ++ vs)
  | [], m, us, vs, h, k => by cases h; simpa using k
  | w :: l, m, us, vs, h, k => by
    obtain ⟨u, t, h1, h2, rfl⟩ := h
    exact ⟨u, t ++ vs, h1, DenL.append h2 k, rfl⟩
theorem DenL.take : ∀ {n : Nat} {l : List SV} {us : List Value}, DenL E ρ l us → DenL E ρ (l.take n) (us.take n)
  | 0, l, us, h => by simp [DenL]
  | n + 1, [], us, h => by cases h; simp [DenL]
  | n + 1, w :: l, us, h => by
    obtain ⟨u, t, h1, h2, rfl⟩ := h
    exact ⟨u, _, h1, DenL.take h2, by simp⟩
theorem DenL.drop : ∀ {n : Nat} {l : List SV} {us : List Value}, DenL E ρ l us → DenL E ρ (l.drop n) (us.drop n)
  | 0, l, us, h => by simpa using h
  | n + 1, [], us, h => by cases h; simp [DenL]
  | n + 1, w :: l, us, h => by
    obtain ⟨u, t, h1, h2, rfl⟩ := h
    simpa using DenL.drop (n := n) h2
theorem DenL.set {v : SV} {u : Value} (hv : Den E ρ v u) : ∀ {n : Nat} {l : List SV} {us : List Value}, DenL E ρ l us → DenL E ρ (l.set n v) (us.set n u)
  | n, [], us, h => by cases h; simp [DenL]
  | 0, w :: l, us, h => by
    obtain ⟨x, t, h1, h2, rfl⟩ := h
    exact ⟨u, t, hv, h2, by simp⟩
  | n + 1, w :: l, us, h => by
    obtain ⟨x, t, h1, h2, rfl⟩ := h
    exact ⟨x, _, h1, DenL.set hv h2, by simp⟩
theorem DenL.of_get : ∀ {l : List SV} {us : List Value}, us.length = l.length → (∀ (i : Nat) (v : SV), l[i]? = some v → ∃ u, us[i]? = some u ∧ Den E ρ v u) → DenL E ρ l us
  | [], us, hl, _ => by cases us <;> simp_all [DenL]
  | w :: l, us, hl, h => by
    cases us with
    | nil => simp at hl
    | cons u us =>
      obtain ⟨x, hx, hd⟩ := h 0 w rfl
      simp at hx; subst hx
      exact ⟨u, us, hd, DenL.of_get (by simpa using hl) (fun i v hv => by simpa using h (i + 1) v (by simpa using hv)), rfl⟩
theorem DenL.replicate {v : SV} {u : Value} (hv : Den E ρ v u) : ∀ (n : Nat), DenL E ρ (List.replicate n v) (List.replicate n u)
  | 0 => rfl
  | n + 1 => ⟨u, _, hv, DenL.replicate hv n, rfl⟩
theorem DenL.one {v : SV} {us : List Value} (h : DenL E ρ [v] us) : ∃ u, us = [u] ∧ Den E ρ v u := by
  obtain ⟨u, t, h1, h2, rfl⟩ := h
  cases h2
  exact ⟨u, rfl, h1⟩
end
/-- Is it the value of one cell? -/
def SV.one : SV → Bool
  | .agg _ | .tup _ => false
  | _ => true
theorem Den.one {E : Val} {ρ : Rho} {v : SV} {u : Value} (h : Den E ρ v u) (k : v.one = true) : u.oneCell' = true := by
  cases v
  case bool => cases h; rfl
  case int => cases h; rfl
  case str => rw [h.2]; rfl
  case nptr => cases h; rfl
  case ptr => obtain ⟨p, _, rfl⟩ := h; rfl
  case nslice => cases h; rfl
  case slice =>
    obtain ⟨p, _, h⟩ := h
    rcases h with ⟨rfl, _⟩ | ⟨_, _, ⟨a, rfl⟩, _⟩ <;> rfl
  case nfunc => cases h; rfl
  case func => obtain ⟨a, b, _, _, rfl⟩ := h; rfl
  case yield => obtain ⟨p, _, rfl⟩ := h; rfl
  case niface => cases h; rfl
  case iface => obtain ⟨p, _, rfl⟩ := h; rfl
  case agg => simp [SV.one] at k
  case tup => simp [SV.one] at k
  case atom => rw [h.2]; exact h.1
theorem cells_one {u : Value} (h : u.oneCell' = true) : u.cells = #[u] := by
  cases u <;> first | rfl | simp [Value.oneCell'] at h
/-- The cells of a value. -/
def SV.cells : SV → List SV
  | .agg l => l
  | v => [v]
theorem Den.cells {E : Val} {ρ : Rho} {v : SV} {u : Value} (h : Den E ρ v u) (k : ∀ l, v ≠ .tup l) : DenL E ρ v.cells u.cells.toList := by
  by_cases ho : v.one = true
  · have hu := Den.one h ho
    rw [cells_one hu]
    have : v.cells = [v] := by cases v <;> first | rfl | simp [SV.one] at ho
    rw [this]
    exact ⟨u, [], h, rfl, rfl⟩
  · cases v <;> simp [SV.one] at ho
    case agg l => obtain ⟨a, ha, rfl⟩ := h; simpa [Value.cells, SV.cells] using ha
    case tup l => exact absurd rfl (k l)
/-- A literal of the program. -/
def ofCell : Value → R SV
  | .bool b => .ok (.bool b)
  | .int k n => .ok (.int k (.lit n))
  | .string s => .ok (.str (s.data.toList.map UInt8.toNat))
  | .pointer none => .ok .nptr
  | .slice none 0 0 => .ok .nslice
  | .nilFunc => .ok .nfunc
  | .nilIface => .ok .niface
  | .func (.func f) a b => if a.size = 0 ∧ b.size = 0 then .ok (.func f [] []) else .no "ofCell: func"
  | _ => .no "ofCell"
def ofValue : Value → R SV
  | .agg cs => (mapR ofCell cs.toList).bind fun l => .ok (.agg l)
  | .tuple vs => if vs.size = 0 then .ok (.tup []) else .no "ofValue: tuple"
  | v => ofCell v
theorem bytes_back (s : ByteArray) : bytesOf (s.data.toList.map UInt8.toNat) = s := by
  have : (s.data.toList.map UInt8.toNat).map UInt8.ofNat = s.data.toList := by
    rw [List.map_map]
    conv => rhs; rw [← List.map_id s.data.toList]
    apply List.map_congr_left
    intro x _
    simp
  unfold bytesOf
  rw [this]
theorem ofCell_ok {E : Val} {ρ : Rho} {u : Value} {v : SV} (h : ofCell u = .ok v) : Den E ρ v u := by
  unfold ofCell at h
  split at h <;> first | (cases h; rfl) | skip
  · cases h
    refine ⟨?_, (congrArg Value.string (bytes_back _)).symm⟩
    simp only [List.all_eq_true, List.mem_map, decide_eq_true_eq]
    rintro _ ⟨x, _, rfl⟩
    exact x.toNat_lt
  · split at h
    · rename_i f a b hz
      cases h
      refine ⟨[], [], rfl, rfl, ?_⟩
      have ha : a = #[] := Array.eq_empty_of_size_eq_zero hz.1
      have hb : b = #[] := Array.eq_empty_of_size_eq_zero hz.2
      rw [ha, hb]
    · cases h
  · cases h
theorem mapR_ofCell_ok {E : Val} {ρ : Rho} : ∀ {us : List Value} {l : List SV}, mapR ofCell us = .ok l → DenL E ρ l us
  | [], l, h => by simp [mapR] at h; subst h; rfl
  | u :: us, l, h => by
    simp only [mapR, R.bind_ok] at h
    obtain ⟨a, h1, b, h2, h3⟩ := h
    cases h3
    exact ⟨u, us, ofCell_ok h1, mapR_ofCell_ok h2, rfl⟩
theorem ofValue_ok {E : Val} {ρ : Rho} {u : Value} {v : SV} (h : ofValue u = .ok v) : Den E ρ v u := by
  unfold ofValue at h
  split at h
  · simp only [R.bind_ok] at h
    obtain ⟨l, h1, h2⟩ := h
    cases h2
    exact ⟨_, mapR_ofCell_ok h1, rfl⟩
  · split at h
    · rename_i vs hz
      cases h
      refine ⟨[], rfl, ?_⟩
      rw [Array.eq_empty_of_size_eq_zero hz]
    · cases h
  · exact ofCell_ok h
end Go.Proofs.YtpabnkbpklggnaaDoor
