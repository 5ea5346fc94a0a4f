/- Worlds that hold a lane. -/
import Derived.Test.YtopfbmgmpihcnaaRows
import Derived.WalkKit
import Derived.WalkSpells
import Derived.ProofKit
import Derived.Outline
import Derived.Handy
import Derived.RowKit3
import Derived.BigQuiet
import Derived.Deep.QuietTactic
import Derived.Deep.RegionHeld3
import Derived.Deep.Draws
import Derived.Deep.RegionLaw
import Derived.RegionTactic
import Derived.BigRegion
import Derived.IntWalk
import Derived.LoopTactic
import Derived.OwnWalk
import Derived.Laws.AppendOwn
import Derived.Laws.OwnMore
import Derived.Laws.MakeOwn
import Derived.Laws.Pointers
import Derived.Maps.AppendAt
import Derived.Deep.AppendLies
import Derived.Below
namespace Go.Proofs.Ytopfbmgmpihcnaa
open Go.RowKit
set_option linter.unusedVariables false
set_option maxRecDepth 100000

/-- All but the blocks of S is as it was. -/
structure Fr (S : Nat → Prop) (w w' : World) : Prop where
  os : w'.os = w.os
  tape : w'.tape = w.tape
  output : w'.output = w.output
  size : w.heap.size ≤ w'.heap.size
  block : ∀ k, k < w.heap.size → ¬ S k → w'.heap[k]? = w.heap[k]?
theorem Fr.refl (S : Nat → Prop) (w : World) : Fr S w w := ⟨rfl, rfl, rfl, Nat.le_refl _, fun _ _ _ => rfl⟩
theorem Fr.trans {S T : Nat → Prop} {a b c : World} (h : Fr S a b) (k : Fr T b c) (hT : ∀ i, i < a.heap.size → T i → S i) : Fr S a c :=
  ⟨k.os.trans h.os, k.tape.trans h.tape, k.output.trans h.output, Nat.le_trans h.size k.size, fun i hi hn => (k.block i (Nat.lt_of_lt_of_le hi h.size) (fun ht => hn (hT i hi ht))).trans (h.block i hi hn)⟩
theorem Fr.mono {S T : Nat → Prop} {a b : World} (h : Fr S a b) (hT : ∀ i, i < a.heap.size → S i → T i) : Fr T a b := ⟨h.os, h.tape, h.output, h.size, fun i hi hn => h.block i hi (fun hs => hn (hT i hi hs))⟩
theorem Fr.of_below {S : Nat → Prop} {a b : World} (h : Below a.heap.size a b) : Fr S a b := ⟨h.os, h.tape, h.output, h.size, fun i hi _ => h.block i hi⟩
theorem Fr.of_grown {S : Nat → Prop} {a b : World} {E : Nat} (h : a.grownBy b (some E)) (hE : E < a.heap.size → S E) : Fr S a b := ⟨h.os, h.tape, h.output, h.size, fun i hi hn => h.block i hi (fun e => hn (by injection e with e; subst e; exact hE hi))⟩
theorem Fr.of_grown' {S : Nat → Prop} {a b : World} {r : Option Nat} (h : a.grownBy b r) (hE : ∀ E, r = some E → E < a.heap.size → S E) : Fr S a b := ⟨h.os, h.tape, h.output, h.size, fun i hi hn => h.block i hi (fun e => hn (hE i e.symm hi))⟩
theorem Fr.below {S : Nat → Prop} {a b : World} {B : Nat} (h : Fr S a b) (hB : B ≤ a.heap.size) (hS : ∀ i, i < B → ¬ S i) : Below B a b := ⟨h.os, h.tape, h.output, h.size, fun i hi => h.block i (Nat.lt_of_lt_of_le hi hB) (hS i hi)⟩
theorem Fr.cell {S : Nat → Prop} {a b : World} (h : Fr S a b) {p o : Nat} (hp : p < a.heap.size) (hS : ¬ S p) : b.cell? ⟨p, o, none⟩ = a.cell? ⟨p, o, none⟩ := World.cell?_of_block (a := ⟨p, o, none⟩) (h.block p hp hS)
theorem Fr.frozen {S : Nat → Prop} {a b : World} (h : Fr S a b) {p o : Nat} (hp : p < a.heap.size) (hS : ¬ S p) : b.frozen? ⟨p, o, none⟩ = a.frozen? ⟨p, o, none⟩ := World.frozen?_of_block (a := ⟨p, o, none⟩) (h.block p hp hS)
theorem Fr.alloc {S : Nat → Prop} {a b : World} (h : Fr S a b) (o : Obj) : Fr S a (b.alloc o) :=
  ⟨h.os, h.tape, h.output, Nat.le_trans h.size (by simp), fun i hi hn => (Below.heap_alloc b o i (Nat.lt_of_lt_of_le hi h.size)).trans (h.block i hi hn)⟩
theorem Fr.drew {S : Nat → Prop} {a b : World} (h : Fr S a b) : Fr S a b.drew := ⟨h.os, h.tape, h.output, h.size, h.block⟩
theorem Fr.drewN {S : Nat → Prop} {a b : World} (h : Fr S a b) (n : Nat) : Fr S a (b.drewN n) := ⟨h.os, h.tape, h.output, h.size, h.block⟩
theorem Fr.setCell {S : Nat → Prop} {a b : World} (h : Fr S a b) {p : Addr} (hp : p.block < a.heap.size → S p.block) (u : Value) : Fr S a (b.setCell p u) :=
  ⟨h.os, h.tape, h.output, by simpa [World.setCell] using h.size, fun i hi hn => (Below.heap_setCell b p u i (by rintro rfl; exact hn (hp hi))).trans (h.block i hi hn)⟩
theorem setCell_cell_other {w : World} {a b : Addr} {v : Value} (h : a ≠ b) : (w.setCell b v).cell? a = w.cell? a := World.cell?_setCell_other _ _ _ _ (fun e => h e.symm)

theorem hide {p : Prop} (h : p) : Hid p := h
theorem unhide {p : Prop} (h : Hid p) : p := h
theorem ret_int {k : IntKind} {a b : Int} (h : a = b) : Ending.returned (.int k a) = .returned (.int k b) := by rw [h]
theorem ret_bool {a b : Bool} (h : a = b) : Ending.returned (.bool a) = .returned (.bool b) := by rw [h]
theorem int_eq {k : IntKind} {a b : Int} (h : a = b) : Value.int k a = Value.int k b := by rw [h]
theorem cell_next {w w' : World} {p o : Nat} {v : Value} (h : Below w.heap.size w w') (hp : p < w.heap.size) (hc : w.cell? ⟨p, o, none⟩ = some v) : w'.cell? ⟨p, o, none⟩ = some v :=
  (h.cell (p := ⟨p, o, none⟩) hp).trans hc
theorem below_alloc {w w' : World} {o : Obj} (h : Below (w.alloc o).heap.size (w.alloc o) w') : Below w.heap.size w w' :=
  ((Below.refl _ _).alloc (Nat.le_refl _) _).trans (h.mono (by simp))
theorem below_drewN {B : Nat} {a w : World} (h : Below B a w) (n : Nat) : Below B a (w.drewN n) := ⟨h.os, h.tape, h.output, h.size, h.block⟩
theorem below_drew0 {B : Nat} {a w : World} (h : Below B a w) : Below B a w.drew := ⟨h.os, h.tape, h.output, h.size, h.block⟩
theorem below_step {B : Nat} {a w w' : World} (h : Below B a w) (hB : B ≤ w.heap.size) (k : Below w.heap.size w w') : Below B a w' := h.trans (k.mono hB)
theorem below_of_none {a b : World} (h : a.grownBy b none) : Below a.heap.size a b := ⟨h.os, h.tape, h.output, h.size, fun k hk => h.block k hk (by simp)⟩
theorem add_plain (b off n : Nat) : (⟨b, off, none⟩ : Addr).add n = ⟨b, off + n, none⟩ := by
  cases n <;> simp [Addr.add]
theorem ownsRow_fr {w w' : World} {base size n : Nat} {e : TypeId} {v : Value} {xs : List Value} {S : Nat → Prop} (h : w.ownsRow base e size v n xs) (f : Fr S w w') (hS : ∀ k, v.ownBlock = some k → ¬ S k) : w'.ownsRow base e size v n xs := by
  refine ⟨h.1, ?_⟩
  rcases h.2 with hn | ⟨g, cap, cur, rfl, hb, hgg, rest⟩
  · exact .inl hn
  · exact .inr ⟨g, cap, cur, rfl, hb, (f.block g (Array.getElem?_eq_some_iff.1 hgg).1 (hS g rfl)).trans hgg, rest⟩
theorem info51 : (Try.prog.info? 51).map (fun i => (i.zero, i.size, i.bytes)) = some (some (.agg #[.int .i64 0, .int .i64 0, .int .i64 0, .int .i64 0, .int .i64 0, .int .i64 0, .int .i64 0, .bool false, .int .i64 0]), 9, 72) := by kernel_rfl
/-- A note. -/
structure Nt where
  k : Int
  c : Int
  l : Int
  w : Int
  s : Int
  d : Int
  e : Int
  b : Bool
  n : Int
def Nt.cs (x : Nt) : List Value := [.int .i64 x.k, .int .i64 x.c, .int .i64 x.l, .int .i64 x.w, .int .i64 x.s, .int .i64 x.d, .int .i64 x.e, .bool x.b, .int .i64 x.n]
abbrev Nt.v (x : Nt) : Value := .agg #[.int .i64 x.k, .int .i64 x.c, .int .i64 x.l, .int .i64 x.w, .int .i64 x.s, .int .i64 x.d, .int .i64 x.e, .bool x.b, .int .i64 x.n]
abbrev Nt.arr (x : Nt) : Array Value := #[.int .i64 x.k, .int .i64 x.c, .int .i64 x.l, .int .i64 x.w, .int .i64 x.s, .int .i64 x.d, .int .i64 x.e, .bool x.b, .int .i64 x.n]
def nt0 : Nt := ⟨0, 0, 0, 0, 0, 0, 0, false, 0⟩
def cellsOf (ns : List Nt) : List Value := ns.flatMap Nt.cs
theorem Nt.cs_len (x : Nt) : x.cs.length = 9 := rfl
theorem cells_len (ns : List Nt) : (cellsOf ns).length = ns.length * 9 := by
  induction ns with
  | nil => rfl
  | cons x ns ih => simp [cellsOf, List.flatMap_cons, Nt.cs_len] at ih ⊢; omega
theorem cells_app (a b : List Nt) : cellsOf (a ++ b) = cellsOf a ++ cellsOf b := by simp [cellsOf]
theorem cells_one (x : Nt) : cellsOf [x] = x.cs := by simp [cellsOf]
theorem cells_get (ns : List Nt) (i t : Nat) (ht : t < 9) (x : Nt) (hx : ns[i]? = some x) : (cellsOf ns)[i * 9 + t]? = x.cs[t]? := by
  induction ns generalizing i with
  | nil => simp at hx
  | cons y ns ih =>
    cases i with
    | zero =>
      simp at hx
      subst hx
      show (y.cs ++ cellsOf ns)[0 * 9 + t]? = _
      rw [List.getElem?_append_left (by rw [Nt.cs_len]; omega)]
      simp
    | succ i =>
      simp at hx
      show (y.cs ++ cellsOf ns)[(i + 1) * 9 + t]? = _
      rw [List.getElem?_append_right (by rw [Nt.cs_len]; omega), Nt.cs_len, show (i + 1) * 9 + t - 9 = i * 9 + t by omega]
      exact ih i hx
theorem cells_cell (ns : List Nt) : ∀ u ∈ cellsOf ns, u.oneCell' = true := by
  intro u hu
  simp only [cellsOf, List.mem_flatMap] at hu
  obtain ⟨x, -, hx⟩ := hu
  simp only [Nt.cs, List.mem_cons, List.not_mem_nil, or_false] at hx
  rcases hx with h | h | h | h | h | h | h | h | h <;> (subst h; rfl)
/-- Nine cells: a note. -/
def NtAt (w : World) (b o : Nat) (x : Nt) : Prop := w.cell? ⟨b, o, none⟩ = some (.int .i64 x.k) ∧ w.cell? ⟨b, o + 1, none⟩ = some (.int .i64 x.c) ∧ w.cell? ⟨b, o + 2, none⟩ = some (.int .i64 x.l) ∧ w.cell? ⟨b, o + 3, none⟩ = some (.int .i64 x.w) ∧ w.cell? ⟨b, o + 4, none⟩ = some (.int .i64 x.s) ∧ w.cell? ⟨b, o + 5, none⟩ = some (.int .i64 x.d) ∧ w.cell? ⟨b, o + 6, none⟩ = some (.int .i64 x.e) ∧ w.cell? ⟨b, o + 7, none⟩ = some (.bool x.b) ∧ w.cell? ⟨b, o + 8, none⟩ = some (.int .i64 x.n)
/-- A slice of notes, to be read. -/
def Src (w : World) (v : Value) (ns : List Nt) : Prop :=
  (v = .slice none 0 0 ∧ ns = []) ∨ ∃ b off c, v = .slice (some ⟨b, off, none⟩) ns.length c ∧ ns.length ≤ c ∧ c ≤ maxLen ∧ (ns ≠ [] → b < w.heap.size) ∧ ∀ j u, (cellsOf ns)[j]? = some u → w.cell? ⟨b, off + j, none⟩ = some u
theorem src_at {w : World} {b off : Nat} {ns : List Nt} (h : ∀ j u, (cellsOf ns)[j]? = some u → w.cell? ⟨b, off + j, none⟩ = some u) (i : Nat) (x : Nt) (hx : ns[i]? = some x) : NtAt w b (off + i * 9) x := by
  have g : ∀ t, t < 9 → ∀ u, x.cs[t]? = some u → w.cell? ⟨b, off + i * 9 + t, none⟩ = some u := fun t ht u hu => by
    rw [Nat.add_assoc]; exact h _ _ ((cells_get ns i t ht x hx).trans hu)
  exact ⟨g 0 (by omega) _ rfl, g 1 (by omega) _ rfl, g 2 (by omega) _ rfl, g 3 (by omega) _ rfl, g 4 (by omega) _ rfl, g 5 (by omega) _ rfl, g 6 (by omega) _ rfl, g 7 (by omega) _ rfl, g 8 (by omega) _ rfl⟩
theorem Src.fr {w w' : World} {v : Value} {ns : List Nt} {S : Nat → Prop} (h : Src w v ns) (f : Fr S w w') (hS : ∀ k, v.ownBlock = some k → ¬ S k) : Src w' v ns := by
  rcases h with h | ⟨b, off, c, rfl, h1, h2, h3, h4⟩
  · exact .inl h
  · refine .inr ⟨b, off, c, rfl, h1, h2, fun hn => Nat.lt_of_lt_of_le (h3 hn) f.size, fun j u hu => ?_⟩
    have hn : ns ≠ [] := by rintro rfl; simp [cellsOf] at hu
    exact (f.cell (h3 hn) (hS b rfl)).trans (h4 j u hu)
/-- A lane at block P: notes ns in the slice v. -/
structure La (w : World) (P : Nat) (d : Nat) (v : Value) (ns : List Nt) : Prop where
  hP : P < w.heap.size
  c0 : w.cell? ⟨P, 0, none⟩ = some (.int .i64 (d : Int))
  c1 : w.cell? ⟨P, 1, none⟩ = some v
  f1 : w.frozen? ⟨P, 1, none⟩ = false
  own : w.ownsRow 0 51 9 v ns.length (cellsOf ns)
  ne : v.ownBlock ≠ some P
  le : ns.length ≤ d
  d16 : d ≤ 16
def La.S (P : Nat) (v : Value) (k : Nat) : Prop := k = P ∨ v.ownBlock = some k
theorem La.fr {w w' : World} {P d : Nat} {v : Value} {ns : List Nt} {S : Nat → Prop} (h : La w P d v ns) (f : Fr S w w') (hS : ∀ k, La.S P v k → ¬ S k) : La w' P d v ns :=
  ⟨Nat.lt_of_lt_of_le h.hP f.size, (f.cell h.hP (hS P (.inl rfl))).trans h.c0, (f.cell h.hP (hS P (.inl rfl))).trans h.c1, (f.frozen h.hP (hS P (.inl rfl))).trans h.f1, ownsRow_fr h.own f (fun k hk => hS k (.inr hk)), h.ne, h.le, h.d16⟩
theorem La.next {w w' : World} {P d : Nat} {v : Value} {ns : List Nt} (h : La w P d v ns) (hb : Below w.heap.size w w') : La w' P d v ns := h.fr (Fr.of_below (S := fun _ => False) hb) (fun _ _ => id)
theorem La.lt {w : World} {P d : Nat} {v : Value} {ns : List Nt} (h : La w P d v ns) : ∀ k, La.S P v k → k < w.heap.size := by
  rintro k (rfl | hk)
  · exact h.hP
  · exact (h.own.lt k hk).2
theorem La.form {w : World} {P d : Nat} {v : Value} {ns : List Nt} (h : La w P d v ns) : (v = .slice none 0 0 ∧ ns = []) ∨ ∃ g cp, v = .slice (some ⟨g, 0, none⟩) ns.length cp ∧ ns.length ≤ cp ∧ cp ≤ maxLen ∧ g < w.heap.size := by
  rcases h.own.2 with ⟨h1, h2⟩ | ⟨g, cap, cur, hv, hb, hg, hc, hm, _⟩
  · exact .inl ⟨h1, List.eq_nil_of_length_eq_zero h2⟩
  · exact .inr ⟨g, cap, hv, hc, hm, (Array.getElem?_eq_some_iff.1 hg).1⟩
theorem La.src {w : World} {P d : Nat} {v : Value} {ns : List Nt} (h : La w P d v ns) : Src w v ns := by
  rcases h.form with h1 | ⟨g, cp, rfl, h1, h2, h3⟩
  · exact .inl h1
  · refine .inr ⟨g, 0, cp, rfl, h1, h2, fun _ => h3, fun j u hu => ?_⟩
    have hj : j < ns.length * 9 := by rw [← cells_len]; exact (List.getElem?_eq_some_iff.1 hu).1
    rw [Nat.zero_add]
    exact (h.own.cellAt j hj).trans hu
end Go.Proofs.Ytopfbmgmpihcnaa
