/- Worlds that hold a checker. -/
import Derived.Test.YtfikiophfphmbaaRows
import Derived.WalkKit
import Derived.WalkSpells
import Derived.ProofKit
import Derived.Outline
import Derived.Handy
import Derived.RowKit3
import Derived.BigQuiet
import Derived.Deep.QuietTactic
import Derived.Deep.RegionHeld3
import Derived.Deep.Draws
import Derived.Deep.RegionLaw
import Derived.RegionTactic
import Derived.BigRegion
import Derived.IntWalk
import Derived.LoopTactic
import Derived.OwnWalk
import Derived.Laws.AppendOwn
import Derived.Laws.OwnMore
import Derived.Laws.MakeOwn
import Derived.Laws.Pointers
import Derived.Maps.AppendAt
import Derived.Deep.AppendLies
import Derived.Below
namespace Go.Proofs.Ytfikiophfphmbaa
open Go.RowKit
set_option linter.unusedVariables false
set_option maxRecDepth 100000

/-- All but the blocks of S is as it was. -/
structure Fr (S : Nat → Prop) (w w' : World) : Prop where
  os : w'.os = w.os
  tape : w'.tape = w.tape
  output : w'.output = w.output
  size : w.heap.size ≤ w'.heap.size
  block : ∀ k, k < w.heap.size → ¬ S k → w'.heap[k]? = w.heap[k]?
theorem Fr.refl (S : Nat → Prop) (w : World) : Fr S w w := ⟨rfl, rfl, rfl, Nat.le_refl _, fun _ _ _ => rfl⟩
theorem Fr.trans {S T : Nat → Prop} {a b c : World} (h : Fr S a b) (k : Fr T b c) (hT : ∀ i, i < a.heap.size → T i → S i) : Fr S a c :=
  ⟨k.os.trans h.os, k.tape.trans h.tape, k.output.trans h.output, Nat.le_trans h.size k.size, fun i hi hn => (k.block i (Nat.lt_of_lt_of_le hi h.size) (fun ht => hn (hT i hi ht))).trans (h.block i hi hn)⟩
theorem Fr.mono {S T : Nat → Prop} {a b : World} (h : Fr S a b) (hT : ∀ i, i < a.heap.size → S i → T i) : Fr T a b := ⟨h.os, h.tape, h.output, h.size, fun i hi hn => h.block i hi (fun hs => hn (hT i hi hs))⟩
theorem Fr.of_below {S : Nat → Prop} {a b : World} (h : Below a.heap.size a b) : Fr S a b := ⟨h.os, h.tape, h.output, h.size, fun i hi _ => h.block i hi⟩
theorem Fr.of_grown {S : Nat → Prop} {a b : World} {E : Nat} (h : a.grownBy b (some E)) (hE : E < a.heap.size → S E) : Fr S a b := ⟨h.os, h.tape, h.output, h.size, fun i hi hn => h.block i hi (fun e => hn (by injection e with e; subst e; exact hE hi))⟩
theorem Fr.of_grown' {S : Nat → Prop} {a b : World} {r : Option Nat} (h : a.grownBy b r) (hE : ∀ E, r = some E → E < a.heap.size → S E) : Fr S a b := ⟨h.os, h.tape, h.output, h.size, fun i hi hn => h.block i hi (fun e => hn (hE i e.symm hi))⟩
theorem Fr.below {S : Nat → Prop} {a b : World} {B : Nat} (h : Fr S a b) (hB : B ≤ a.heap.size) (hS : ∀ i, i < B → ¬ S i) : Below B a b := ⟨h.os, h.tape, h.output, h.size, fun i hi => h.block i (Nat.lt_of_lt_of_le hi hB) (hS i hi)⟩
theorem Fr.cell {S : Nat → Prop} {a b : World} (h : Fr S a b) {p o : Nat} (hp : p < a.heap.size) (hS : ¬ S p) : b.cell? ⟨p, o, none⟩ = a.cell? ⟨p, o, none⟩ := World.cell?_of_block (a := ⟨p, o, none⟩) (h.block p hp hS)
theorem Fr.frozen {S : Nat → Prop} {a b : World} (h : Fr S a b) {p o : Nat} (hp : p < a.heap.size) (hS : ¬ S p) : b.frozen? ⟨p, o, none⟩ = a.frozen? ⟨p, o, none⟩ := World.frozen?_of_block (a := ⟨p, o, none⟩) (h.block p hp hS)
theorem Fr.alloc {S : Nat → Prop} {a b : World} (h : Fr S a b) (o : Obj) : Fr S a (b.alloc o) :=
  ⟨h.os, h.tape, h.output, Nat.le_trans h.size (by simp), fun i hi hn => (Below.heap_alloc b o i (Nat.lt_of_lt_of_le hi h.size)).trans (h.block i hi hn)⟩
theorem Fr.drew {S : Nat → Prop} {a b : World} (h : Fr S a b) : Fr S a b.drew := ⟨h.os, h.tape, h.output, h.size, h.block⟩
theorem Fr.drewN {S : Nat → Prop} {a b : World} (h : Fr S a b) (n : Nat) : Fr S a (b.drewN n) := ⟨h.os, h.tape, h.output, h.size, h.block⟩
theorem Fr.setCell {S : Nat → Prop} {a b : World} (h : Fr S a b) {p : Addr} (hp : p.block < a.heap.size → S p.block) (u : Value) : Fr S a (b.setCell p u) :=
  ⟨h.os, h.tape, h.output, by simpa [World.setCell] using h.size, fun i hi hn => (Below.heap_setCell b p u i (by rintro rfl; exact hn (hp hi))).trans (h.block i hi hn)⟩
theorem setCell_cell_other {w : World} {a b : Addr} {v : Value} (h : a ≠ b) : (w.setCell b v).cell? a = w.cell? a := World.cell?_setCell_other _ _ _ _ (fun e => h e.symm)

theorem hide {p : Prop} (h : p) : Hid p := h
theorem unhide {p : Prop} (h : Hid p) : p := h
theorem ret_int {k : IntKind} {a b : Int} (h : a = b) : Ending.returned (.int k a) = .returned (.int k b) := by rw [h]
theorem ret_bool {a b : Bool} (h : a = b) : Ending.returned (.bool a) = .returned (.bool b) := by rw [h]
theorem int_eq {k : IntKind} {a b : Int} (h : a = b) : Value.int k a = Value.int k b := by rw [h]
theorem cell_next {w w' : World} {p o : Nat} {v : Value} (h : Below w.heap.size w w') (hp : p < w.heap.size) (hc : w.cell? ⟨p, o, none⟩ = some v) : w'.cell? ⟨p, o, none⟩ = some v :=
  (h.cell (p := ⟨p, o, none⟩) hp).trans hc
theorem below_alloc {w w' : World} {o : Obj} (h : Below (w.alloc o).heap.size (w.alloc o) w') : Below w.heap.size w w' :=
  ((Below.refl _ _).alloc (Nat.le_refl _) _).trans (h.mono (by simp))
theorem below_drewN {B : Nat} {a w : World} (h : Below B a w) (n : Nat) : Below B a (w.drewN n) := ⟨h.os, h.tape, h.output, h.size, h.block⟩
theorem below_drew0 {B : Nat} {a w : World} (h : Below B a w) : Below B a w.drew := ⟨h.os, h.tape, h.output, h.size, h.block⟩
theorem below_step {B : Nat} {a w w' : World} (h : Below B a w) (hB : B ≤ w.heap.size) (k : Below w.heap.size w w') : Below B a w' := h.trans (k.mono hB)
theorem below_of_none {a b : World} (h : a.grownBy b none) : Below a.heap.size a b := ⟨h.os, h.tape, h.output, h.size, fun k hk => h.block k hk (by simp)⟩
theorem add_plain (b off n : Nat) : (⟨b, off, none⟩ : Addr).add n = ⟨b, off + n, none⟩ := by
  cases n <;> simp [Addr.add]
theorem ownsRow_fr {w w' : World} {base size n : Nat} {e : TypeId} {v : Value} {xs : List Value} {S : Nat → Prop} (h : w.ownsRow base e size v n xs) (f : Fr S w w') (hS : ∀ k, v.ownBlock = some k → ¬ S k) : w'.ownsRow base e size v n xs := by
  refine ⟨h.1, ?_⟩
  rcases h.2 with hn | ⟨g, cap, cur, rfl, hb, hgg, rest⟩
  · exact .inl hn
  · exact .inr ⟨g, cap, cur, rfl, hb, (f.block g (Array.getElem?_eq_some_iff.1 hgg).1 (hS g rfl)).trans hgg, rest⟩

theorem info74 : (Try.prog.info? 74).map (fun i => (i.zero, i.size, i.bytes)) = some (some (.agg #[.int .i64 0, .int .i64 0]), 2, 16) := by kernel_rfl
def kcells (ks : List (Int × Int)) : List Value := ks.flatMap fun k => [.int .i64 k.1, .int .i64 k.2]
theorem kcells_len (ks : List (Int × Int)) : (kcells ks).length = ks.length * 2 := by
  induction ks with
  | nil => rfl
  | cons x ks ih => simp [kcells, List.flatMap_cons] at ih ⊢; omega
theorem kcells_app (a b : List (Int × Int)) : kcells (a ++ b) = kcells a ++ kcells b := by simp [kcells]
theorem kcells_cell (ks : List (Int × Int)) : ∀ u ∈ kcells ks, u.oneCell' = true := by
  intro u hu
  simp only [kcells, List.mem_flatMap] at hu
  obtain ⟨x, -, hx⟩ := hu
  simp only [List.mem_cons, List.not_mem_nil, or_false] at hx
  rcases hx with h | h <;> (subst h; rfl)
theorem kcells_get (ks : List (Int × Int)) (i : Nat) (x : Int × Int) (hx : ks[i]? = some x) : (kcells ks)[i * 2]? = some (.int .i64 x.1) ∧ (kcells ks)[i * 2 + 1]? = some (.int .i64 x.2) := by
  induction ks generalizing i with
  | nil => simp at hx
  | cons y ks ih =>
    cases i with
    | zero =>
      simp at hx
      subst hx
      exact ⟨rfl, rfl⟩
    | succ i =>
      simp at hx
      have := ih i hx
      constructor
      · show ([Value.int .i64 y.1, .int .i64 y.2] ++ kcells ks)[(i + 1) * 2]? = _
        rw [List.getElem?_append_right (by simp; omega)]
        simpa [show (i + 1) * 2 - 2 = i * 2 by omega] using this.1
      · show ([Value.int .i64 y.1, .int .i64 y.2] ++ kcells ks)[(i + 1) * 2 + 1]? = _
        rw [List.getElem?_append_right (by simp; omega)]
        simpa [show (i + 1) * 2 + 1 - 2 = i * 2 + 1 by omega] using this.2
/-- A checker at block P. -/
structure Ck (w : World) (P : Nat) (ws st : Bool) (gr at_ : Int) (en gs : Nat) (v : Value) (ks : List (Int × Int)) : Prop where
  hP : P < w.heap.size
  c0 : w.cell? ⟨P, 0, none⟩ = some (.bool ws)
  c1 : w.cell? ⟨P, 1, none⟩ = some (.bool st)
  c2 : w.cell? ⟨P, 2, none⟩ = some (.int .i64 gr)
  c3 : w.cell? ⟨P, 3, none⟩ = some (.int .i64 at_)
  c4 : w.cell? ⟨P, 4, none⟩ = some (.int .i64 (en : Int))
  c5 : w.cell? ⟨P, 5, none⟩ = some (.int .i64 (gs : Int))
  c6 : w.cell? ⟨P, 6, none⟩ = some v
  f : ∀ t, t < 7 → w.frozen? ⟨P, t, none⟩ = false
  own : w.ownsRow 0 74 2 v ks.length (kcells ks)
  ne : v.ownBlock ≠ some P
  e8 : en ≤ 8
  g1 : 1 ≤ gs
  g16 : gs ≤ 16
  le : ks.length ≤ en
def Ck.S (P : Nat) (v : Value) (k : Nat) : Prop := k = P ∨ v.ownBlock = some k
section
variable {w w' : World} {P en gs : Nat} {ws st : Bool} {gr at_ : Int} {v : Value} {ks : List (Int × Int)}
theorem Ck.fr {S : Nat → Prop} (h : Ck w P ws st gr at_ en gs v ks) (f : Fr S w w') (hS : ∀ k, Ck.S P v k → ¬ S k) : Ck w' P ws st gr at_ en gs v ks := by
  have n := hS P (.inl rfl)
  exact ⟨Nat.lt_of_lt_of_le h.hP f.size, (f.cell h.hP n).trans h.c0, (f.cell h.hP n).trans h.c1, (f.cell h.hP n).trans h.c2, (f.cell h.hP n).trans h.c3, (f.cell h.hP n).trans h.c4, (f.cell h.hP n).trans h.c5, (f.cell h.hP n).trans h.c6, fun t ht => (f.frozen h.hP n).trans (h.f t ht), ownsRow_fr h.own f (fun k hk => hS k (.inr hk)), h.ne, h.e8, h.g1, h.g16, h.le⟩
theorem Ck.next (h : Ck w P ws st gr at_ en gs v ks) (hb : Below w.heap.size w w') : Ck w' P ws st gr at_ en gs v ks := h.fr (Fr.of_below (S := fun _ => False) hb) (fun _ _ => id)
theorem Ck.lt (h : Ck w P ws st gr at_ en gs v ks) : ∀ k, Ck.S P v k → k < w.heap.size := by
  rintro k (rfl | hk)
  · exact h.hP
  · exact (h.own.lt k hk).2
theorem Ck.form (h : Ck w P ws st gr at_ en gs v ks) : (v = .slice none 0 0 ∧ ks = []) ∨ ∃ g cp, v = .slice (some ⟨g, 0, none⟩) ks.length cp ∧ ks.length ≤ cp ∧ cp ≤ maxLen ∧ g < w.heap.size ∧ g ≠ P ∧ ∀ j u, (kcells ks)[j]? = some u → w.cell? ⟨g, j, none⟩ = some u := by
  rcases h.own.2 with ⟨h1, h2⟩ | ⟨g, cap, cur, hv, hb, hg, hc, hm, _⟩
  · exact .inl ⟨h1, List.eq_nil_of_length_eq_zero h2⟩
  · refine .inr ⟨g, cap, hv, hc, hm, (Array.getElem?_eq_some_iff.1 hg).1, fun e => h.ne (by rw [hv, e]; rfl), fun j u hu => ?_⟩
    have hj : j < ks.length * 2 := by rw [← kcells_len]; exact (List.getElem?_eq_some_iff.1 hu).1
    have := h.own
    rw [hv] at this
    exact (this.cellAt j hj).trans hu
/-- The walk's four cells written. -/
theorem Ck.walk (h : Ck w P ws st gr at_ en gs v ks) (a b : Bool) (c d : Int) : Ck ((((w.setCell ⟨P, 0, none⟩ (.bool a)).setCell ⟨P, 1, none⟩ (.bool b)).setCell ⟨P, 2, none⟩ (.int .i64 c)).setCell ⟨P, 3, none⟩ (.int .i64 d)) P a b c d en gs v ks := by
  have f : Fr (fun k => k = P) w ((((w.setCell ⟨P, 0, none⟩ (.bool a)).setCell ⟨P, 1, none⟩ (.bool b)).setCell ⟨P, 2, none⟩ (.int .i64 c)).setCell ⟨P, 3, none⟩ (.int .i64 d)) := ((((Fr.refl (fun k => k = P) w).setCell (p := ⟨P, 0, none⟩) (fun _ => rfl) _).setCell (p := ⟨P, 1, none⟩) (fun _ => rfl) _).setCell (p := ⟨P, 2, none⟩) (fun _ => rfl) _).setCell (p := ⟨P, 3, none⟩) (fun _ => rfl) _
  have s : ∀ (W : World) (j i : Nat) (u : Value), j ≠ i → (W.setCell ⟨P, i, none⟩ u).cell? ⟨P, j, none⟩ = W.cell? ⟨P, j, none⟩ := fun W j i u hne => setCell_cell_other (by intro e; injection e; omega)
  have same : ∀ (W : World) (i : Nat) (u x : Value), W.cell? ⟨P, i, none⟩ = some x → (W.setCell ⟨P, i, none⟩ u).cell? ⟨P, i, none⟩ = some u := fun W i u x hx => World.cell?_setCell_same' _ _ _ (by rw [hx]; rfl)
  have l0 := (same w 0 (.bool a) _ h.c0)
  have l1 := same (w.setCell ⟨P, 0, none⟩ (.bool a)) 1 (.bool b) _ ((s _ 1 0 _ (by omega)).trans h.c1)
  have l2 := same ((w.setCell ⟨P, 0, none⟩ (.bool a)).setCell ⟨P, 1, none⟩ (.bool b)) 2 (.int .i64 c) _ ((s _ 2 1 _ (by omega)).trans ((s _ 2 0 _ (by omega)).trans h.c2))
  have l3 := same (((w.setCell ⟨P, 0, none⟩ (.bool a)).setCell ⟨P, 1, none⟩ (.bool b)).setCell ⟨P, 2, none⟩ (.int .i64 c)) 3 (.int .i64 d) _ ((s _ 3 2 _ (by omega)).trans ((s _ 3 1 _ (by omega)).trans ((s _ 3 0 _ (by omega)).trans h.c3)))
  refine ⟨Nat.lt_of_lt_of_le h.hP f.size, (s _ 0 3 _ (by omega)).trans ((s _ 0 2 _ (by omega)).trans ((s _ 0 1 _ (by omega)).trans l0)), (s _ 1 3 _ (by omega)).trans ((s _ 1 2 _ (by omega)).trans l1), (s _ 2 3 _ (by omega)).trans l2, l3, ?_, ?_, ?_, fun t ht => by simpa [World.frozen?_setCell] using h.f t ht, ownsRow_fr h.own f (fun k hk e => h.ne (by rw [hk, e])), h.ne, h.e8, h.g1, h.g16, h.le⟩
  · exact (s _ 4 3 _ (by omega)).trans ((s _ 4 2 _ (by omega)).trans ((s _ 4 1 _ (by omega)).trans ((s _ 4 0 _ (by omega)).trans h.c4)))
  · exact (s _ 5 3 _ (by omega)).trans ((s _ 5 2 _ (by omega)).trans ((s _ 5 1 _ (by omega)).trans ((s _ 5 0 _ (by omega)).trans h.c5)))
  · exact (s _ 6 3 _ (by omega)).trans ((s _ 6 2 _ (by omega)).trans ((s _ 6 1 _ (by omega)).trans ((s _ 6 0 _ (by omega)).trans h.c6)))
theorem walk_fr (w : World) (P : Nat) (a b c d : Value) : Fr (fun k => k = P) w ((((w.setCell ⟨P, 0, none⟩ a).setCell ⟨P, 1, none⟩ b).setCell ⟨P, 2, none⟩ c).setCell ⟨P, 3, none⟩ d) := ((((Fr.refl (fun k => k = P) w).setCell (p := ⟨P, 0, none⟩) (fun _ => rfl) _).setCell (p := ⟨P, 1, none⟩) (fun _ => rfl) _).setCell (p := ⟨P, 2, none⟩) (fun _ => rfl) _).setCell (p := ⟨P, 3, none⟩) (fun _ => rfl) _
theorem Ck.setAt (h : Ck w P ws st gr at_ en gs v ks) (d : Int) : Ck (w.setCell ⟨P, 3, none⟩ (.int .i64 d)) P ws st gr d en gs v ks := by
  have f : Fr (fun k => k = P) w (w.setCell ⟨P, 3, none⟩ (.int .i64 d)) := (Fr.refl (fun k => k = P) w).setCell (p := ⟨P, 3, none⟩) (fun _ => rfl) _
  have s : ∀ (j : Nat), j ≠ 3 → (w.setCell ⟨P, 3, none⟩ (.int .i64 d)).cell? ⟨P, j, none⟩ = w.cell? ⟨P, j, none⟩ := fun j hne => setCell_cell_other (by intro e; injection e; omega)
  exact ⟨Nat.lt_of_lt_of_le h.hP f.size, (s 0 (by omega)).trans h.c0, (s 1 (by omega)).trans h.c1, (s 2 (by omega)).trans h.c2, World.cell?_setCell_same' _ _ _ (by rw [h.c3]; rfl), (s 4 (by omega)).trans h.c4, (s 5 (by omega)).trans h.c5, (s 6 (by omega)).trans h.c6, fun t ht => by simpa [World.frozen?_setCell] using h.f t ht, ownsRow_fr h.own f (fun k hk e => h.ne (by rw [hk, e])), h.ne, h.e8, h.g1, h.g16, h.le⟩
theorem Ck.setStale (h : Ck w P ws st gr at_ en gs v ks) (b : Bool) : Ck (w.setCell ⟨P, 1, none⟩ (.bool b)) P ws b gr at_ en gs v ks := by
  have f : Fr (fun k => k = P) w (w.setCell ⟨P, 1, none⟩ (.bool b)) := (Fr.refl (fun k => k = P) w).setCell (p := ⟨P, 1, none⟩) (fun _ => rfl) _
  have s : ∀ (j : Nat), j ≠ 1 → (w.setCell ⟨P, 1, none⟩ (.bool b)).cell? ⟨P, j, none⟩ = w.cell? ⟨P, j, none⟩ := fun j hne => setCell_cell_other (by intro e; injection e; omega)
  exact ⟨Nat.lt_of_lt_of_le h.hP f.size, (s 0 (by omega)).trans h.c0, World.cell?_setCell_same' _ _ _ (by rw [h.c1]; rfl), (s 2 (by omega)).trans h.c2, (s 3 (by omega)).trans h.c3, (s 4 (by omega)).trans h.c4, (s 5 (by omega)).trans h.c5, (s 6 (by omega)).trans h.c6, fun t ht => by simpa [World.frozen?_setCell] using h.f t ht, ownsRow_fr h.own f (fun k hk e => h.ne (by rw [hk, e])), h.ne, h.e8, h.g1, h.g16, h.le⟩
theorem Ck.setRow {v' : Value} {ks' : List (Int × Int)} (h : Ck w P ws st gr at_ en gs v ks) (hown : w.ownsRow 0 74 2 v' ks'.length (kcells ks')) (ne : v'.ownBlock ≠ some P) (hle : ks'.length ≤ en) : Ck (w.setCell ⟨P, 6, none⟩ v') P ws st gr at_ en gs v' ks' := by
  have f : Fr (fun k => k = P) w (w.setCell ⟨P, 6, none⟩ v') := (Fr.refl (fun k => k = P) w).setCell (p := ⟨P, 6, none⟩) (fun _ => rfl) _
  have s : ∀ (j : Nat), j ≠ 6 → (w.setCell ⟨P, 6, none⟩ v').cell? ⟨P, j, none⟩ = w.cell? ⟨P, j, none⟩ := fun j hne => setCell_cell_other (by intro e; injection e; omega)
  exact ⟨Nat.lt_of_lt_of_le h.hP f.size, (s 0 (by omega)).trans h.c0, (s 1 (by omega)).trans h.c1, (s 2 (by omega)).trans h.c2, (s 3 (by omega)).trans h.c3, (s 4 (by omega)).trans h.c4, (s 5 (by omega)).trans h.c5, World.cell?_setCell_same' _ _ _ (by rw [h.c6]; rfl), fun t ht => by simpa [World.frozen?_setCell] using h.f t ht, ownsRow_fr hown f (fun k hk e => ne (by rw [hk, e])), ne, h.e8, h.g1, h.g16, hle⟩
end
end Go.Proofs.Ytfikiophfphmbaa
