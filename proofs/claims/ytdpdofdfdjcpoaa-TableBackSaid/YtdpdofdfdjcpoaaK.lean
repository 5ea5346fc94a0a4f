/- Worlds that hold a table. -/
import Derived.Test.YtdpdofdfdjcpoaaRows
import Derived.WalkKit
import Derived.WalkSpells
import Derived.ProofKit
import Derived.Outline
import Derived.Handy
import Derived.RowKit3
import Derived.BigQuiet
import Derived.Deep.QuietTactic
import Derived.Deep.RegionHeld3
import Derived.Deep.Draws
import Derived.RegionTactic
import Derived.BigRegion
import Derived.IntWalk
import Derived.LoopTactic
import Derived.OwnWalk
import Derived.Laws.AppendOwn
import Derived.Laws.OwnMore
import Derived.Laws.MakeOwn
import Derived.Laws.Pointers
import Derived.Maps.AppendAt
import Derived.Below
namespace Go.Proofs.Ytdpdofdfdjcpoaa
open Go.RowKit
set_option linter.unusedVariables false
set_option maxRecDepth 100000

theorem hide {p : Prop} (h : p) : Hid p := h
theorem unhide {p : Prop} (h : Hid p) : p := h
theorem ret_int {k : IntKind} {a b : Int} (h : a = b) : Ending.returned (.int k a) = .returned (.int k b) := by rw [h]
theorem ret_bool {a b : Bool} (h : a = b) : Ending.returned (.bool a) = .returned (.bool b) := by rw [h]
theorem int_eq {k : IntKind} {a b : Int} (h : a = b) : Value.int k a = Value.int k b := by rw [h]
theorem bool_eq {a b : Bool} (h : a = b) : Value.bool a = Value.bool b := by rw [h]
theorem cell_next {w w' : World} {p o : Nat} {v : Value} (h : Below w.heap.size w w') (hp : p < w.heap.size) (hc : w.cell? ⟨p, o, none⟩ = some v) : w'.cell? ⟨p, o, none⟩ = some v :=
  (h.cell (p := ⟨p, o, none⟩) hp).trans hc
theorem below_alloc {w w' : World} {o : Obj} (h : Below (w.alloc o).heap.size (w.alloc o) w') : Below w.heap.size w w' :=
  ((Below.refl _ _).alloc (Nat.le_refl _) _).trans (h.mono (by simp))
theorem below_drewN {B : Nat} {a w : World} (h : Below B a w) (n : Nat) : Below B a (w.drewN n) := ⟨h.os, h.tape, h.output, h.size, h.block⟩
theorem below_step {B : Nat} {a w w' : World} (h : Below B a w) (hB : B ≤ w.heap.size) (k : Below w.heap.size w w') : Below B a w' := h.trans (k.mono hB)
/-- A table at block P, its entries in block E: owners o, locks l. -/
def Tb (w : World) (P E n : Nat) (o : Nat → Int) (l : Nat → Bool) : Prop :=
  P < w.heap.size ∧ E < w.heap.size ∧ P ≠ E ∧ (∃ cp, n ≤ cp ∧ w.cell? ⟨P, 0, none⟩ = some (.slice (some ⟨E, 0, none⟩) n cp)) ∧
  ∀ j, j < n → w.cell? ⟨E, j * 2, none⟩ = some (.int .i64 (o j)) ∧ w.cell? ⟨E, j * 2 + 1, none⟩ = some (.bool (l j)) ∧ w.frozen? ⟨E, j * 2, none⟩ = false ∧ w.frozen? ⟨E, j * 2 + 1, none⟩ = false
theorem Tb.next {w w' : World} {P E n : Nat} {o : Nat → Int} {l : Nat → Bool} (h : Tb w P E n o l) (hb : Below w.heap.size w w') : Tb w' P E n o l := by
  obtain ⟨h1, h2, h3, h4, h5⟩ := h
  exact ⟨Nat.lt_of_lt_of_le h1 hb.size, Nat.lt_of_lt_of_le h2 hb.size, h3, h4.imp fun cp h => ⟨h.1, cell_next hb h1 h.2⟩, fun j hj => ⟨cell_next hb h2 (h5 j hj).1, cell_next hb h2 (h5 j hj).2.1, (hb.frozen (p := ⟨E, j * 2, none⟩) h2).trans (h5 j hj).2.2.1, (hb.frozen (p := ⟨E, j * 2 + 1, none⟩) h2).trans (h5 j hj).2.2.2⟩⟩
theorem Tb.alloc {w : World} {P E n : Nat} {o : Nat → Int} {l : Nat → Bool} (h : Tb w P E n o l) (x : Obj) : Tb (w.alloc x) P E n o l := h.next ((Below.refl _ _).alloc (Nat.le_refl _) _)
theorem Tb.drewN {w : World} {P E n : Nat} {o : Nat → Int} {l : Nat → Bool} (h : Tb w P E n o l) (k : Nat) : Tb (w.drewN k) P E n o l := h.next (below_drewN (Below.refl _ _) k)
theorem tb_drew {w : World} {P E n : Nat} {o : Nat → Int} {l : Nat → Bool} (h : Tb w P E n o l) : Tb w.drew P E n o l := h
def upd {α : Type} (f : Nat → α) (j : Nat) (x : α) : Nat → α := fun i => if i = j then x else f i
theorem setCell_cell_other {w : World} {a b : Addr} {v : Value} (h : a ≠ b) : (w.setCell b v).cell? a = w.cell? a := World.cell?_setCell_other _ _ _ _ (fun e => h e.symm)
/-- The entry j stored. -/
theorem Tb.set {w : World} {P E n : Nat} {o : Nat → Int} {l : Nat → Bool} (h : Tb w P E n o l) {j : Nat} (hj : j < n) (x : Int) (b : Bool) :
    Tb ((w.setCell ⟨E, j * 2, none⟩ (.int .i64 x)).setCell ⟨E, j * 2 + 1, none⟩ (.bool b)) P E n (upd o j x) (upd l j b) := by
  obtain ⟨h1, h2, h3, h4, h5⟩ := h
  have c0 := (h5 j hj).1
  have c1 := (h5 j hj).2.1
  have s0 : (w.setCell ⟨E, j * 2, none⟩ (.int .i64 x)).cell? ⟨E, j * 2, none⟩ = some (.int .i64 x) := World.cell?_setCell_same' _ _ _ (by rw [c0]; rfl)
  have s1 : (w.setCell ⟨E, j * 2, none⟩ (.int .i64 x)).cell? ⟨E, j * 2 + 1, none⟩ = some (.bool (l j)) := by rw [setCell_cell_other (by simp)]; exact c1
  refine ⟨by simpa [World.setCell] using h1, by simpa [World.setCell] using h2, h3, ?_, fun i hi => ?_⟩
  · refine h4.imp fun cp h => ⟨h.1, ?_⟩
    rw [setCell_cell_other (fun e => h3 (by injection e)), setCell_cell_other (fun e => h3 (by injection e))]; exact h.2
  · obtain ⟨a1, a2, a3, a4⟩ := h5 i hi
    refine ⟨?_, ?_, by simpa [World.frozen?_setCell] using a3, by simpa [World.frozen?_setCell] using a4⟩
    · by_cases e : i = j
      · subst e
        rw [setCell_cell_other (by simp), s0]
        simp [upd]
      · rw [setCell_cell_other (by intro q; injection q with q1 q2; omega), setCell_cell_other (by intro q; injection q with q1 q2; omega), a1]
        simp [upd, e]
    · by_cases e : i = j
      · subst e
        rw [World.cell?_setCell_same' _ _ _ (by rw [s1]; rfl)]
        simp [upd]
      · rw [setCell_cell_other (by intro q; injection q with q1 q2; omega), setCell_cell_other (by intro q; injection q with q1 q2; omega), a2]
        simp [upd, e]
theorem run_make_rowN {P : Program} (t e : TypeId) (i : TypeInfo) (z : Value) (ht : P.underlying t = some (.slice e)) (hi : P.info? e = some i) (hz : i.zero = some z)
    (kl kc : IntKind) (n c : Nat) (hnc : n ≤ c) (hbytes : i.bytes * c ≤ 281474976710656) (h63 : c ≤ 9223372036854775807) (w : World) :
    (Instr.makeSlice t (.int kl (n : Int)) (.int kc (c : Int))).run P w = .ok (.slice (some ⟨w.heap.size, 0, none⟩) n c) (w.alloc (.cells (madeCells z.cells (c * i.size)) e)) := by
  have hb : (i.bytes : Int) * (c : Int) ≤ 281474976710656 := by
    have h : ((i.bytes * c : Nat) : Int) ≤ 281474976710656 := by omega
    rwa [Int.natCast_mul] at h
  have hr := run_make (P := P) w t e i z ht hi hz kl kc n c (by omega) (by omega) hb (by omega)
  simp only [Int.toNat_natCast] at hr
  exact hr

theorem only_drew {a w : World} {row : Option Nat} (h : a.grownBy w row) : a.grownBy w.drew row := ⟨h.os, h.tape, h.output, h.size, h.block⟩
theorem only_alloc {a w : World} {row : Option Nat} (h : a.grownBy w row) (o : Obj) : a.grownBy (w.alloc o) row :=
  ⟨h.os, h.tape, h.output, Nat.le_trans h.size (by simp), fun i hi hne => (Below.heap_alloc w o i (Nat.lt_of_lt_of_le hi h.size)).trans (h.block i hi hne)⟩
theorem only_setCell {a w : World} {g : Nat} (h : a.grownBy w (some g)) {p : Addr} (hp : p.block = g ∨ a.heap.size ≤ p.block) (u : Value) : a.grownBy (w.setCell p u) (some g) :=
  ⟨h.os, h.tape, h.output, by simpa [World.setCell] using h.size, fun i hi hne => (Below.heap_setCell w p u i (by
    rintro rfl
    rcases hp with hp | hp
    · exact hne (by rw [hp])
    · omega)).trans (h.block i hi hne)⟩
theorem only_refl (a : World) (row : Option Nat) : a.grownBy a row := ⟨rfl, rfl, rfl, Nat.le_refl _, fun _ _ _ => rfl⟩
theorem only_of_below {a w : World} (h : Below a.heap.size a w) (row : Option Nat) : a.grownBy w row := ⟨h.os, h.tape, h.output, h.size, fun i hi _ => h.block i hi⟩
theorem made_cell (n k : Nat) (hk : k < n * 2) : (madeCells #[.int .i64 0, .bool false] (n * 2))[k]? = some (if k % 2 = 0 then .int .i64 0 else .bool false) := by
  simp only [madeCells, Array.getElem?_map, Array.getElem?_range, hk, if_true, Option.map_some]
  have : k % 2 = 0 ∨ k % 2 = 1 := by omega
  rcases this with h | h <;> simp [h]
theorem tb_new (w : World) (n : Nat) : Tb ((w.alloc (.cells (madeCells #[.int .i64 0, .bool false] (n * 2)) 35)).alloc (.cells #[.slice (some ⟨w.heap.size, 0, none⟩) n n] 55)) (w.heap.size + 1) w.heap.size n (fun _ => 0) (fun _ => false) := by
  refine ⟨by simp, by simp; omega, by omega, ⟨n, Nat.le_refl _, by simp [go_sem]⟩, fun j hj => ?_⟩
  have a0 := made_cell n (j * 2) (by omega)
  have a1 := made_cell n (j * 2 + 1) (by omega)
  rw [if_pos (by omega)] at a0
  rw [if_neg (by omega)] at a1
  have b0 : (w.alloc (.cells (madeCells #[.int .i64 0, .bool false] (n * 2)) 35)).cell? ⟨w.heap.size, j * 2, none⟩ = some (.int .i64 0) := (World.cell?_alloc_new _ _ _ _).trans a0
  have b1 : (w.alloc (.cells (madeCells #[.int .i64 0, .bool false] (n * 2)) 35)).cell? ⟨w.heap.size, j * 2 + 1, none⟩ = some (.bool false) := (World.cell?_alloc_new _ _ _ _).trans a1
  have f0 : (w.alloc (.cells (madeCells #[.int .i64 0, .bool false] (n * 2)) 35)).frozen? ⟨w.heap.size, j * 2, none⟩ = false := World.frozen?_alloc_new _ _ _ _
  have f1 : (w.alloc (.cells (madeCells #[.int .i64 0, .bool false] (n * 2)) 35)).frozen? ⟨w.heap.size, j * 2 + 1, none⟩ = false := World.frozen?_alloc_new _ _ _ _
  have hb : Below (w.alloc (.cells (madeCells #[.int .i64 0, .bool false] (n * 2)) 35)).heap.size (w.alloc (.cells (madeCells #[.int .i64 0, .bool false] (n * 2)) 35)) ((w.alloc (.cells (madeCells #[.int .i64 0, .bool false] (n * 2)) 35)).alloc (.cells #[.slice (some ⟨w.heap.size, 0, none⟩) n n] 55)) := (Below.refl _ _).alloc (Nat.le_refl _) _
  have lt : w.heap.size < (w.alloc (.cells (madeCells #[.int .i64 0, .bool false] (n * 2)) 35)).heap.size := by simp
  exact ⟨cell_next hb lt b0, cell_next hb lt b1, (hb.frozen (p := ⟨w.heap.size, j * 2, none⟩) lt).trans f0, (hb.frozen (p := ⟨w.heap.size, j * 2 + 1, none⟩) lt).trans f1⟩

theorem info35 : (Try.prog.info? 35).map (fun i => (i.zero, i.size, i.bytes)) = some (some (.agg #[.int .i64 0, .bool false]), 2, 16) := by kernel_rfl
theorem info3 : (Try.prog.info? 3).map (fun i => (i.zero, i.size, i.bytes)) = some (some (.int .i64 0), 1, 8) := by kernel_rfl
end Go.Proofs.Ytdpdofdfdjcpoaa
