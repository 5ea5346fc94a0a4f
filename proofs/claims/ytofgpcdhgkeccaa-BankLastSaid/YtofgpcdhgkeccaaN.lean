/- Worlds that hold a memory in banks. -/
import Derived.Test.YtofgpcdhgkeccaaM
import Derived.WalkKit
import Derived.WalkSpells
import Derived.ProofKit
import Derived.Outline
import Derived.Handy
import Derived.RowKit3
import Derived.BigQuiet
import Derived.Deep.QuietTactic
import Derived.Deep.RegionHeld3
import Derived.Deep.Draws
import Derived.RegionTactic
import Derived.BigRegion
import Derived.IntWalk
import Derived.LoopTactic
import Derived.OwnWalk
import Derived.Laws.AppendOwn
import Derived.Laws.OwnMore
import Derived.Laws.MakeOwn
import Derived.Laws.Pointers
import Derived.Maps.AppendAt
import Derived.Deep.AppendLies
import Derived.Below
namespace Go.Proofs.Ytofgpcdhgkeccaa
open Go.RowKit
set_option linter.unusedVariables false
set_option maxRecDepth 100000

/-- All but the blocks of S is as it was. -/
structure Fr (S : Nat → Prop) (w w' : World) : Prop where
  os : w'.os = w.os
  tape : w'.tape = w.tape
  output : w'.output = w.output
  size : w.heap.size ≤ w'.heap.size
  block : ∀ k, k < w.heap.size → ¬ S k → w'.heap[k]? = w.heap[k]?
theorem Fr.refl (S : Nat → Prop) (w : World) : Fr S w w := ⟨rfl, rfl, rfl, Nat.le_refl _, fun _ _ _ => rfl⟩
theorem Fr.trans {S T : Nat → Prop} {a b c : World} (h : Fr S a b) (k : Fr T b c) (hT : ∀ i, i < a.heap.size → T i → S i) : Fr S a c :=
  ⟨k.os.trans h.os, k.tape.trans h.tape, k.output.trans h.output, Nat.le_trans h.size k.size, fun i hi hn => (k.block i (Nat.lt_of_lt_of_le hi h.size) (fun ht => hn (hT i hi ht))).trans (h.block i hi hn)⟩
theorem Fr.mono {S T : Nat → Prop} {a b : World} (h : Fr S a b) (hT : ∀ i, i < a.heap.size → S i → T i) : Fr T a b := ⟨h.os, h.tape, h.output, h.size, fun i hi hn => h.block i hi (fun hs => hn (hT i hi hs))⟩
theorem Fr.of_below {S : Nat → Prop} {a b : World} (h : Below a.heap.size a b) : Fr S a b := ⟨h.os, h.tape, h.output, h.size, fun i hi _ => h.block i hi⟩
theorem Fr.of_grown {S : Nat → Prop} {a b : World} {E : Nat} (h : a.grownBy b (some E)) (hE : E < a.heap.size → S E) : Fr S a b := ⟨h.os, h.tape, h.output, h.size, fun i hi hn => h.block i hi (fun e => hn (by injection e with e; subst e; exact hE hi))⟩
theorem Fr.of_grown' {S : Nat → Prop} {a b : World} {r : Option Nat} (h : a.grownBy b r) (hE : ∀ E, r = some E → E < a.heap.size → S E) : Fr S a b := ⟨h.os, h.tape, h.output, h.size, fun i hi hn => h.block i hi (fun e => hn (hE i e.symm hi))⟩
theorem Fr.below {S : Nat → Prop} {a b : World} {B : Nat} (h : Fr S a b) (hB : B ≤ a.heap.size) (hS : ∀ i, i < B → ¬ S i) : Below B a b := ⟨h.os, h.tape, h.output, h.size, fun i hi => h.block i (Nat.lt_of_lt_of_le hi hB) (hS i hi)⟩
theorem Fr.cell {S : Nat → Prop} {a b : World} (h : Fr S a b) {p o : Nat} (hp : p < a.heap.size) (hS : ¬ S p) : b.cell? ⟨p, o, none⟩ = a.cell? ⟨p, o, none⟩ := World.cell?_of_block (a := ⟨p, o, none⟩) (h.block p hp hS)
theorem Fr.frozen {S : Nat → Prop} {a b : World} (h : Fr S a b) {p o : Nat} (hp : p < a.heap.size) (hS : ¬ S p) : b.frozen? ⟨p, o, none⟩ = a.frozen? ⟨p, o, none⟩ := World.frozen?_of_block (a := ⟨p, o, none⟩) (h.block p hp hS)
theorem Fr.alloc {S : Nat → Prop} {a b : World} (h : Fr S a b) (o : Obj) : Fr S a (b.alloc o) :=
  ⟨h.os, h.tape, h.output, Nat.le_trans h.size (by simp), fun i hi hn => (Below.heap_alloc b o i (Nat.lt_of_lt_of_le hi h.size)).trans (h.block i hi hn)⟩
theorem Fr.drew {S : Nat → Prop} {a b : World} (h : Fr S a b) : Fr S a b.drew := ⟨h.os, h.tape, h.output, h.size, h.block⟩
theorem Fr.drewN {S : Nat → Prop} {a b : World} (h : Fr S a b) (n : Nat) : Fr S a (b.drewN n) := ⟨h.os, h.tape, h.output, h.size, h.block⟩
theorem Fr.setCell {S : Nat → Prop} {a b : World} (h : Fr S a b) {p : Addr} (hp : p.block < a.heap.size → S p.block) (u : Value) : Fr S a (b.setCell p u) :=
  ⟨h.os, h.tape, h.output, by simpa [World.setCell] using h.size, fun i hi hn => (Below.heap_setCell b p u i (by rintro rfl; exact hn (hp hi))).trans (h.block i hi hn)⟩
theorem setCell_cell_other {w : World} {a b : Addr} {v : Value} (h : a ≠ b) : (w.setCell b v).cell? a = w.cell? a := World.cell?_setCell_other _ _ _ _ (fun e => h e.symm)

/-- A configuration that may be, with n lines and G banks. -/
structure Cfg where
  a : Int
  b : Int
  c : Int
  d : Int
  e : Int
  f : Int
  g : Int
  n : Nat
  G : Nat
  ok : Ok a b c d e f g
  hn : b * 2 = n
  hg : g = G
theorem Cfg.n2 (q : Cfg) : 2 ≤ q.n := by have := q.ok.2.1; have := q.hn; omega
theorem Cfg.n32 (q : Cfg) : q.n ≤ 32 := by have := q.ok.2.1; have := q.hn; omega
theorem Cfg.G1 (q : Cfg) : 1 ≤ q.G := by have := q.ok.2.2.2.2.2.2; have := q.hg; omega
theorem Cfg.G4 (q : Cfg) : q.G ≤ 4 := by have := q.ok.2.2.2.2.2.2; have := q.hg; omega
abbrev Cfg.v (q : Cfg) : Value := .agg #[.int .i64 q.a, .int .i64 q.b, .int .i64 q.c, .int .i64 q.d, .int .i64 q.e, .int .i64 q.f, .int .i64 q.g]
def cfgOf (a b c d e f g : Int) (h : Ok a b c d e f g) : Cfg := ⟨a, b, c, d, e, f, g, (b * 2).toNat, g.toNat, h, by have := h.2.1; omega, by have := h.2.2.2.2.2.2; omega⟩
/-- A memory: its own block M, its banks' block K, the bank j's lines in block L j; word i is φ i. -/
structure Mem (w : World) (q : Cfg) (M K : Nat) (L : Nat → Nat) (φ : Nat → Int) : Prop where
  hM : M < w.heap.size
  hK : K < w.heap.size
  hMK : M ≠ K
  c0 : w.cell? ⟨M, 0, none⟩ = some (.int .i64 q.a)
  c1 : w.cell? ⟨M, 1, none⟩ = some (.int .i64 q.b)
  c2 : w.cell? ⟨M, 2, none⟩ = some (.int .i64 q.c)
  c3 : w.cell? ⟨M, 3, none⟩ = some (.int .i64 q.d)
  c4 : w.cell? ⟨M, 4, none⟩ = some (.int .i64 q.e)
  c5 : w.cell? ⟨M, 5, none⟩ = some (.int .i64 q.f)
  c6 : w.cell? ⟨M, 6, none⟩ = some (.int .i64 q.g)
  c7 : w.cell? ⟨M, 7, none⟩ = some (.slice (some ⟨K, 0, none⟩) q.G q.G)
  cnt : ∀ j, j < q.G → (∃ r, w.cell? ⟨K, j * 3, none⟩ = some (.int .i64 r)) ∧ (∃ r, w.cell? ⟨K, j * 3 + 1, none⟩ = some (.int .i64 r)) ∧ w.frozen? ⟨K, j * 3, none⟩ = false ∧ w.frozen? ⟨K, j * 3 + 1, none⟩ = false
  row : ∀ j, j < q.G → ∃ m, m ≤ 32 ∧ (∀ p, p < m ↔ p * q.G + j < q.n) ∧ ((m = 0 ∧ w.cell? ⟨K, j * 3 + 2, none⟩ = some (.slice none 0 0)) ∨ (0 < m ∧ ∃ cp, m ≤ cp ∧ cp ≤ maxLen ∧ w.cell? ⟨K, j * 3 + 2, none⟩ = some (.slice (some ⟨L j, 0, none⟩) m cp)))
  lns : ∀ j p, j < q.G → p * q.G + j < q.n → L j < w.heap.size ∧ L j ≠ M ∧ L j ≠ K ∧ w.cell? ⟨L j, p * 2, none⟩ = some (.int .i64 (φ ((p * q.G + j) * 2))) ∧ w.cell? ⟨L j, p * 2 + 1, none⟩ = some (.int .i64 (φ ((p * q.G + j) * 2 + 1))) ∧ w.frozen? ⟨L j, p * 2, none⟩ = false ∧ w.frozen? ⟨L j, p * 2 + 1, none⟩ = false
  far : ∀ i j, i < j → j < q.G → j < q.n → L i ≠ L j
/-- The blocks of a memory. -/
def Mem.S (q : Cfg) (M K : Nat) (L : Nat → Nat) (k : Nat) : Prop := k = M ∨ k = K ∨ ∃ j, j < q.G ∧ j < q.n ∧ k = L j
/-- Kept where none of its blocks is turned. -/
theorem Mem.kept {w w' : World} {q : Cfg} {M K : Nat} {L : Nat → Nat} {φ : Nat → Int} {S : Nat → Prop} (h : Mem w q M K L φ) (f : Fr S w w') (hS : ∀ k, Mem.S q M K L k → ¬ S k) : Mem w' q M K L φ := by
  have sM := hS M (.inl rfl)
  have sK := hS K (.inr (.inl rfl))
  have sz := f.size
  refine ⟨Nat.lt_of_lt_of_le h.hM sz, Nat.lt_of_lt_of_le h.hK sz, h.hMK, (f.cell h.hM sM).trans h.c0, (f.cell h.hM sM).trans h.c1, (f.cell h.hM sM).trans h.c2, (f.cell h.hM sM).trans h.c3, (f.cell h.hM sM).trans h.c4, (f.cell h.hM sM).trans h.c5, (f.cell h.hM sM).trans h.c6, (f.cell h.hM sM).trans h.c7, fun j hj => ?_, fun j hj => ?_, fun j p hj hp => ?_, h.far⟩
  · obtain ⟨⟨r, a1⟩, ⟨s, a2⟩, a3, a4⟩ := h.cnt j hj
    exact ⟨⟨r, (f.cell h.hK sK).trans a1⟩, ⟨s, (f.cell h.hK sK).trans a2⟩, (f.frozen h.hK sK).trans a3, (f.frozen h.hK sK).trans a4⟩
  · obtain ⟨m, a0, a1, a2⟩ := h.row j hj
    refine ⟨m, a0, a1, ?_⟩
    rcases a2 with ⟨e, a2⟩ | ⟨e, cp, x, y, a2⟩
    · exact .inl ⟨e, (f.cell h.hK sK).trans a2⟩
    · exact .inr ⟨e, cp, x, y, (f.cell h.hK sK).trans a2⟩
  · obtain ⟨a1, a2, a3, a4, a5, a6, a7⟩ := h.lns j p hj hp
    have sL := hS (L j) (.inr (.inr ⟨j, hj, by omega, rfl⟩))
    exact ⟨Nat.lt_of_lt_of_le a1 sz, a2, a3, (f.cell a1 sL).trans a4, (f.cell a1 sL).trans a5, (f.frozen a1 sL).trans a6, (f.frozen a1 sL).trans a7⟩
theorem Mem.S_lt {w : World} {q : Cfg} {M K : Nat} {L : Nat → Nat} {φ : Nat → Int} (h : Mem w q M K L φ) : ∀ k, Mem.S q M K L k → k < w.heap.size := by
  rintro k (rfl | rfl | ⟨j, h1, h2, rfl⟩)
  · exact h.hM
  · exact h.hK
  · exact (h.lns j 0 h1 (by omega)).1
theorem Mem.next {w w' : World} {q : Cfg} {M K : Nat} {L : Nat → Nat} {φ : Nat → Int} (h : Mem w q M K L φ) (hb : Below w.heap.size w w') : Mem w' q M K L φ :=
  h.kept (Fr.of_below (S := fun _ => False) hb) (fun _ _ => id)
theorem Mem.alloc {w : World} {q : Cfg} {M K : Nat} {L : Nat → Nat} {φ : Nat → Int} (h : Mem w q M K L φ) (o : Obj) : Mem (w.alloc o) q M K L φ := h.next ((Below.refl _ _).alloc (Nat.le_refl _) _)
theorem mem_drew {w : World} {q : Cfg} {M K : Nat} {L : Nat → Nat} {φ : Nat → Int} (h : Mem w q M K L φ) : Mem w.drew q M K L φ := ⟨h.hM, h.hK, h.hMK, h.c0, h.c1, h.c2, h.c3, h.c4, h.c5, h.c6, h.c7, h.cnt, h.row, h.lns, h.far⟩
theorem mem_drewN {w : World} {q : Cfg} {M K : Nat} {L : Nat → Nat} {φ : Nat → Int} (h : Mem w q M K L φ) (n : Nat) : Mem (w.drewN n) q M K L φ := h.next (below_drewN (Below.refl _ _) n)
/-- A count turned: one cell of the banks' block, that holds a number, holds another one. -/
theorem Mem.setCnt {w : World} {q : Cfg} {M K : Nat} {L : Nat → Nat} {φ : Nat → Int} (h : Mem w q M K L φ) {j t : Nat} (hj : j < q.G) (ht : t < 2) (x : Int) : Mem (w.setCell ⟨K, j * 3 + t, none⟩ (.int .i64 x)) q M K L φ := by
  have other : ∀ {p o : Nat}, (p ≠ K ∨ o ≠ j * 3 + t) → (w.setCell ⟨K, j * 3 + t, none⟩ (.int .i64 x)).cell? ⟨p, o, none⟩ = w.cell? ⟨p, o, none⟩ := by
    intro p o hne
    exact setCell_cell_other (by intro e; injection e with e1 e2; rcases hne with h | h <;> exact h (by assumption))
  have fz : ∀ {p o : Nat}, (w.setCell ⟨K, j * 3 + t, none⟩ (.int .i64 x)).frozen? ⟨p, o, none⟩ = w.frozen? ⟨p, o, none⟩ := World.frozen?_setCell _ _ _ _
  have sz : (w.setCell ⟨K, j * 3 + t, none⟩ (.int .i64 x)).heap.size = w.heap.size := by simp [World.setCell]
  have oM := fun o => other (p := M) (o := o) (.inl h.hMK)
  refine ⟨by rw [sz]; exact h.hM, by rw [sz]; exact h.hK, h.hMK, (oM _).trans h.c0, (oM _).trans h.c1, (oM _).trans h.c2, (oM _).trans h.c3, (oM _).trans h.c4, (oM _).trans h.c5, (oM _).trans h.c6, (oM _).trans h.c7, fun i hi => ?_, fun i hi => ?_, fun i p hi hp => ?_, h.far⟩
  · obtain ⟨⟨r, a1⟩, ⟨s, a2⟩, a3, a4⟩ := h.cnt i hi
    refine ⟨?_, ?_, fz.trans a3, fz.trans a4⟩
    · by_cases e : i * 3 = j * 3 + t
      · exact ⟨x, by rw [e]; exact World.cell?_setCell_same' _ _ _ (by rw [← e, a1]; rfl)⟩
      · exact ⟨r, (other (.inr e)).trans a1⟩
    · by_cases e : i * 3 + 1 = j * 3 + t
      · exact ⟨x, by rw [e]; exact World.cell?_setCell_same' _ _ _ (by rw [← e, a2]; rfl)⟩
      · exact ⟨s, (other (.inr e)).trans a2⟩
  · obtain ⟨m, a0, a1, a2⟩ := h.row i hi
    refine ⟨m, a0, a1, ?_⟩
    rcases a2 with ⟨e, a2⟩ | ⟨e, cp, y, z, a2⟩
    · exact .inl ⟨e, (other (.inr (by omega))).trans a2⟩
    · exact .inr ⟨e, cp, y, z, (other (.inr (by omega))).trans a2⟩
  · obtain ⟨a1, a2, a3, a4, a5, a6, a7⟩ := h.lns i p hi hp
    exact ⟨by rw [sz]; exact a1, a2, a3, (other (.inl a3)).trans a4, (other (.inl a3)).trans a5, fz.trans a6, fz.trans a7⟩
def upd {α : Type} (f : Nat → α) (j : Nat) (x : α) : Nat → α := fun i => if i = j then x else f i
theorem upd_same {α : Type} (f : Nat → α) (j : Nat) (x : α) : upd f j x j = x := if_pos rfl
theorem upd_other {α : Type} (f : Nat → α) {i j : Nat} (h : i ≠ j) (x : α) : upd f j x i = f i := if_neg h
/-- A line's place is its own. -/
theorem place_inj {G i j p s : Nat} (hi : i < G) (hj : j < G) (h : p * G + i = s * G + j) : p = s ∧ i = j := by
  have hG : 0 < G := by omega
  have e1 : (p * G + i) / G = p := by rw [Nat.mul_comm, Nat.mul_add_div hG, Nat.div_eq_of_lt hi]; omega
  have e2 : (s * G + j) / G = s := by rw [Nat.mul_comm, Nat.mul_add_div hG, Nat.div_eq_of_lt hj]; omega
  rw [h, e2] at e1
  subst e1
  exact ⟨rfl, by omega⟩
/-- A word stored. -/
theorem Mem.setWord {w : World} {q : Cfg} {M K : Nat} {L : Nat → Nat} {φ : Nat → Int} (h : Mem w q M K L φ) {j p t : Nat} (hj : j < q.G) (hp : p * q.G + j < q.n) (ht : t < 2) (x : Int) : Mem (w.setCell ⟨L j, p * 2 + t, none⟩ (.int .i64 x)) q M K L (upd φ ((p * q.G + j) * 2 + t) x) := by
  obtain ⟨b1, b2, b3, b4, b5, b6, b7⟩ := h.lns j p hj hp
  have other : ∀ {b o : Nat}, (b ≠ L j ∨ o ≠ p * 2 + t) → (w.setCell ⟨L j, p * 2 + t, none⟩ (.int .i64 x)).cell? ⟨b, o, none⟩ = w.cell? ⟨b, o, none⟩ := by
    intro b o hne
    exact setCell_cell_other (by intro e; injection e with e1 e2; rcases hne with h | h <;> exact h (by assumption))
  have fz : ∀ {b o : Nat}, (w.setCell ⟨L j, p * 2 + t, none⟩ (.int .i64 x)).frozen? ⟨b, o, none⟩ = w.frozen? ⟨b, o, none⟩ := World.frozen?_setCell _ _ _ _
  have sz : (w.setCell ⟨L j, p * 2 + t, none⟩ (.int .i64 x)).heap.size = w.heap.size := by simp [World.setCell]
  have oM := fun o => other (b := M) (o := o) (.inl (fun e => b2 e.symm))
  have oK := fun o => other (b := K) (o := o) (.inl (fun e => b3 e.symm))
  refine ⟨by rw [sz]; exact h.hM, by rw [sz]; exact h.hK, h.hMK, (oM _).trans h.c0, (oM _).trans h.c1, (oM _).trans h.c2, (oM _).trans h.c3, (oM _).trans h.c4, (oM _).trans h.c5, (oM _).trans h.c6, (oM _).trans h.c7, fun i hi => ?_, fun i hi => ?_, fun i s hi hs => ?_, h.far⟩
  · obtain ⟨⟨r, a1⟩, ⟨s, a2⟩, a3, a4⟩ := h.cnt i hi
    exact ⟨⟨r, (oK _).trans a1⟩, ⟨s, (oK _).trans a2⟩, fz.trans a3, fz.trans a4⟩
  · obtain ⟨m, a0, a1, a2⟩ := h.row i hi
    refine ⟨m, a0, a1, ?_⟩
    rcases a2 with ⟨e, a2⟩ | ⟨e, cp, y, z, a2⟩
    · exact .inl ⟨e, (oK _).trans a2⟩
    · exact .inr ⟨e, cp, y, z, (oK _).trans a2⟩
  · obtain ⟨a1, a2, a3, a4, a5, a6, a7⟩ := h.lns i s hi hs
    by_cases e : i = j ∧ s = p
    · obtain ⟨rfl, rfl⟩ := e
      refine ⟨by rw [sz]; exact a1, a2, a3, ?_, ?_, fz.trans a6, fz.trans a7⟩
      · by_cases e : t = 0
        · subst e
          rw [Nat.add_zero, Nat.add_zero, upd_same]
          exact World.cell?_setCell_same' _ _ _ (by rw [a4]; rfl)
        · rw [upd_other _ (by omega)]; exact (other (.inr (by omega))).trans a4
      · by_cases e : t = 1
        · subst e
          rw [upd_same]
          exact World.cell?_setCell_same' _ _ _ (by rw [a5]; rfl)
        · rw [upd_other _ (by omega)]; exact (other (.inr (by omega))).trans a5
    · have hne : s * q.G + i ≠ p * q.G + j := fun hh => by have := place_inj hi hj hh; exact e ⟨this.2, this.1⟩
      have hc : ∀ u, L i ≠ L j ∨ s * 2 + u ≠ p * 2 + t ∨ 2 ≤ u := by
        intro u
        by_cases ei : i = j
        · by_cases u2 : 2 ≤ u
          · exact .inr (.inr u2)
          · right; left; intro h; exact e ⟨ei, by omega⟩
        · left
          rcases Nat.lt_or_ge i j with hl | hl
          · exact h.far i j hl hj (by omega)
          · exact fun e => h.far j i (by omega) hi (by omega) e.symm
      refine ⟨by rw [sz]; exact a1, a2, a3, ?_, ?_, fz.trans a6, fz.trans a7⟩
      · rw [upd_other _ (by omega)]
        refine (other ?_).trans a4
        rcases hc 0 with h | h | h
        · exact .inl h
        · exact .inr h
        · omega
      · rw [upd_other _ (by omega)]
        refine (other ?_).trans a5
        rcases hc 1 with h | h | h
        · exact .inl h
        · exact .inr h
        · omega
end Go.Proofs.Ytofgpcdhgkeccaa
