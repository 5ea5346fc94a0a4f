/- The table of package isa: what its cells hold; frames. -/
import Derived.Test.YtfiangiajhdhcaaDoorRows
import Derived.WalkKit
import Derived.WalkSpells
import Derived.ProofKit
import Derived.Outline
import Derived.Handy
import Derived.RowKit3
import Derived.BigQuiet
import Derived.Deep.QuietTactic
import Derived.Deep.RegionHeld3
import Derived.Deep.Draws
import Derived.Deep.RegionLaw
import Derived.RegionTactic
import Derived.BigRegion
import Derived.IntWalk
import Derived.LoopTactic
import Derived.OwnWalk
import Derived.Laws.AppendOwn
import Derived.Laws.OwnMore
import Derived.Laws.MakeOwn
import Derived.Laws.Pointers
import Derived.Maps.AppendAt
import Derived.Deep.AppendLies
import Derived.Below
import Derived.OpenShut
import Derived.Deep.Draws
import Derived.Lib.LaidTab
namespace Go.Proofs.YtfiangiajhdhcaaDoor
open Go.ChangeShapes Go.WideShapes Go.RowKit
set_option linter.unusedVariables false
set_option maxRecDepth 100000

/-- All but the blocks of S is as it was. -/
structure Fr (S : Nat → Prop) (w w' : World) : Prop where
  os : w'.os = w.os
  tape : w'.tape = w.tape
  output : w'.output = w.output
  size : w.heap.size ≤ w'.heap.size
  block : ∀ k, k < w.heap.size → ¬ S k → w'.heap[k]? = w.heap[k]?
theorem Fr.refl (S : Nat → Prop) (w : World) : Fr S w w := ⟨rfl, rfl, rfl, Nat.le_refl _, fun _ _ _ => rfl⟩
theorem Fr.trans {S T : Nat → Prop} {a b c : World} (h : Fr S a b) (k : Fr T b c) (hT : ∀ i, i < a.heap.size → T i → S i) : Fr S a c :=
  ⟨k.os.trans h.os, k.tape.trans h.tape, k.output.trans h.output, Nat.le_trans h.size k.size, fun i hi hn => (k.block i (Nat.lt_of_lt_of_le hi h.size) (fun ht => hn (hT i hi ht))).trans (h.block i hi hn)⟩
theorem Fr.mono {S T : Nat → Prop} {a b : World} (h : Fr S a b) (hT : ∀ i, i < a.heap.size → S i → T i) : Fr T a b := ⟨h.os, h.tape, h.output, h.size, fun i hi hn => h.block i hi (fun hs => hn (hT i hi hs))⟩
theorem Fr.of_below {S : Nat → Prop} {a b : World} (h : Below a.heap.size a b) : Fr S a b := ⟨h.os, h.tape, h.output, h.size, fun i hi _ => h.block i hi⟩
theorem Fr.of_grown {S : Nat → Prop} {a b : World} {E : Nat} (h : a.grownBy b (some E)) (hE : E < a.heap.size → S E) : Fr S a b := ⟨h.os, h.tape, h.output, h.size, fun i hi hn => h.block i hi (fun e => hn (by injection e with e; subst e; exact hE hi))⟩
theorem Fr.of_grown' {S : Nat → Prop} {a b : World} {r : Option Nat} (h : a.grownBy b r) (hE : ∀ E, r = some E → E < a.heap.size → S E) : Fr S a b := ⟨h.os, h.tape, h.output, h.size, fun i hi hn => h.block i hi (fun e => hn (hE i e.symm hi))⟩
theorem Fr.below {S : Nat → Prop} {a b : World} {B : Nat} (h : Fr S a b) (hB : B ≤ a.heap.size) (hS : ∀ i, i < B → ¬ S i) : Below B a b := ⟨h.os, h.tape, h.output, h.size, fun i hi => h.block i (Nat.lt_of_lt_of_le hi hB) (hS i hi)⟩
theorem Fr.cell {S : Nat → Prop} {a b : World} (h : Fr S a b) {p o : Nat} (hp : p < a.heap.size) (hS : ¬ S p) : b.cell? ⟨p, o, none⟩ = a.cell? ⟨p, o, none⟩ := World.cell?_of_block (a := ⟨p, o, none⟩) (h.block p hp hS)
theorem Fr.frozen {S : Nat → Prop} {a b : World} (h : Fr S a b) {p o : Nat} (hp : p < a.heap.size) (hS : ¬ S p) : b.frozen? ⟨p, o, none⟩ = a.frozen? ⟨p, o, none⟩ := World.frozen?_of_block (a := ⟨p, o, none⟩) (h.block p hp hS)
theorem Fr.alloc {S : Nat → Prop} {a b : World} (h : Fr S a b) (o : Obj) : Fr S a (b.alloc o) :=
  ⟨h.os, h.tape, h.output, Nat.le_trans h.size (by simp), fun i hi hn => (Below.heap_alloc b o i (Nat.lt_of_lt_of_le hi h.size)).trans (h.block i hi hn)⟩
theorem Fr.drew {S : Nat → Prop} {a b : World} (h : Fr S a b) : Fr S a b.drew := ⟨h.os, h.tape, h.output, h.size, h.block⟩
theorem Fr.drewN {S : Nat → Prop} {a b : World} (h : Fr S a b) (n : Nat) : Fr S a (b.drewN n) := ⟨h.os, h.tape, h.output, h.size, h.block⟩
theorem Fr.setCell {S : Nat → Prop} {a b : World} (h : Fr S a b) {p : Addr} (hp : p.block < a.heap.size → S p.block) (u : Value) : Fr S a (b.setCell p u) :=
  ⟨h.os, h.tape, h.output, by simpa [World.setCell] using h.size, fun i hi hn => (Below.heap_setCell b p u i (by rintro rfl; exact hn (hp hi))).trans (h.block i hi hn)⟩
theorem setCell_cell_other {w : World} {a b : Addr} {v : Value} (h : a ≠ b) : (w.setCell b v).cell? a = w.cell? a := World.cell?_setCell_other _ _ _ _ (fun e => h e.symm)

theorem hide {p : Prop} (h : p) : Hid p := h
theorem unhide {p : Prop} (h : Hid p) : p := h
theorem ret_int {k : IntKind} {a b : Int} (h : a = b) : Ending.returned (.int k a) = .returned (.int k b) := by rw [h]
theorem ret_bool {a b : Bool} (h : a = b) : Ending.returned (.bool a) = .returned (.bool b) := by rw [h]
theorem int_eq {k : IntKind} {a b : Int} (h : a = b) : Value.int k a = Value.int k b := by rw [h]
theorem cell_next {w w' : World} {p o : Nat} {v : Value} (h : Below w.heap.size w w') (hp : p < w.heap.size) (hc : w.cell? ⟨p, o, none⟩ = some v) : w'.cell? ⟨p, o, none⟩ = some v :=
  (h.cell (p := ⟨p, o, none⟩) hp).trans hc
theorem below_alloc {w w' : World} {o : Obj} (h : Below (w.alloc o).heap.size (w.alloc o) w') : Below w.heap.size w w' :=
  ((Below.refl _ _).alloc (Nat.le_refl _) _).trans (h.mono (by simp))
theorem below_drewN {B : Nat} {a w : World} (h : Below B a w) (n : Nat) : Below B a (w.drewN n) := ⟨h.os, h.tape, h.output, h.size, h.block⟩
theorem below_drew0 {B : Nat} {a w : World} (h : Below B a w) : Below B a w.drew := ⟨h.os, h.tape, h.output, h.size, h.block⟩
theorem below_step {B : Nat} {a w w' : World} (h : Below B a w) (hB : B ≤ w.heap.size) (k : Below w.heap.size w w') : Below B a w' := h.trans (k.mono hB)
theorem below_of_none {a b : World} (h : a.grownBy b none) : Below a.heap.size a b := ⟨h.os, h.tape, h.output, h.size, fun k hk => h.block k hk (by simp)⟩
theorem add_plain (b off n : Nat) : (⟨b, off, none⟩ : Addr).add n = ⟨b, off + n, none⟩ := by
  cases n <;> simp [Addr.add]
section
variable {H : Type} {enc : TypeId × Value → H} {w : World} {base : Nat} {spare : Nat → Bool} {held : Bool}
theorem cells3 : Tryd.prog.cellsOf 3 = 1 := by kernel_rfl
theorem cells9 : Tryd.prog.cellsOf 9 = 1 := by kernel_rfl
theorem cells123 : Tryd.prog.cellsOf 123 = 3 := by kernel_rfl
theorem cells152 : Tryd.prog.cellsOf 152 = 4 := by kernel_rfl
theorem cells153 : Tryd.prog.cellsOf 153 = 48 := by kernel_rfl
theorem list3 {α : Type} {cs : List α} (h : cs.length = 3) : ∃ c0 c1 c2, cs = [c0, c1, c2] := by
  match cs, h with
  | [c0, c1, c2], _ => exact ⟨c0, c1, c2, rfl⟩
theorem list4 {α : Type} {cs : List α} (h : cs.length = 4) : ∃ c0 c1 c2 c3, cs = [c0, c1, c2, c3] := by
  match cs, h with
  | [c0, c1, c2, c3], _ => exact ⟨c0, c1, c2, c3, rfl⟩
theorem list12 {α : Type} {cs : List α} (h : cs.length = 12) : ∃ c0 c1 c2 c3 c4 c5 c6 c7 c8 c9 c10 c11, cs = [c0, c1, c2, c3, c4, c5, c6, c7, c8, c9, c10, c11] := by
  match cs, h with
  | [c0, c1, c2, c3, c4, c5, c6, c7, c8, c9, c10, c11], _ => exact ⟨c0, c1, c2, c3, c4, c5, c6, c7, c8, c9, c10, c11, rfl⟩
/-- One row of the table out of its reading: a word, and three numbers. -/
theorem row_cells {n : Nat} {cs : List Value} {y : DataW H × List MemPlace} {l : List UInt8} {a b c : Int}
    (h : DataW.trod enc Tryd.prog w base spare held n 152 cs = some y) (hy : y.1 = .agg [.lit (.string l), .agg [.lit (.int .i64 a), .lit (.int .i64 b), .lit (.int .i64 c)]]) :
    ∃ s, cs = [s, .int .i64 a, .int .i64 b, .int .i64 c] := by
  obtain ⟨xs, m, _, rfl, hl, hlen, hf⟩ := DataW.trod_struct Tryd.underlying152 h
  obtain ⟨c0, c1, c2, c3, rfl⟩ := list4 (hl.trans cells152)
  match xs, hlen with
  | [y0, y1], _ =>
    have h1 := hf 1 _ rfl
    simp [cells123] at h1
    simp only [List.map_cons, List.map_nil, DataW.agg.injEq, List.cons.injEq, and_true] at hy
    obtain ⟨k0, k1⟩ := hy
    obtain ⟨xs2, m2, _, rfl, hl2, hlen2, hf2⟩ := DataW.trod_array Tryd.underlying123 h1
    obtain ⟨z0, z1, z2, rfl⟩ := list3 hlen2
    have g0 := hf2 0 (by omega)
    have g1 := hf2 1 (by omega)
    have g2 := hf2 2 (by omega)
    simp [cells3] at g0 g1 g2
    obtain ⟨s0, q0, e0, _⟩ := DataW.trod_int Tryd.underlying3 g0
    obtain ⟨s1, q1, e1, _⟩ := DataW.trod_int Tryd.underlying3 g1
    obtain ⟨s2, q2, e2, _⟩ := DataW.trod_int Tryd.underlying3 g2
    subst e0 e1 e2
    simp only [List.cons.injEq, and_true] at q0 q1 q2
    simp at k1
    obtain ⟨r0, r1, r2⟩ := k1
    subst q0 q1 q2 r0 r1 r2
    exact ⟨_, rfl⟩
end
/-- What the numbers of the ops are. -/
def kdL : List Nat := [0, 0, 0, 1, 2, 0, 1, 1, 1, 1, 1, 0, 1, 1, 0, 1, 1, 0, 0, 0, 0, 3, 0, 0, 4, 1, 1, 5, 0, 0, 1, 5, 0, 0, 0, 0]
def kd (op i : Nat) : Nat := (kdL[op * 3 + i]?).getD 0
/-- The table of isa lies in block 0 as the program's text lays it (its words are not asked after). -/
def Tab (w : World) : Prop := 0 < w.heap.size ∧ ∀ op i, op < 12 → i < 3 → w.cell? ⟨0, op * 4 + 1 + i, none⟩ = some (.int .i64 (kd op i))
theorem Tab.next {w w' : World} (h : Tab w) (hb : Below w.heap.size w w') : Tab w' :=
  ⟨Nat.lt_of_lt_of_le h.1 hb.size, fun o i ho hi => (hb.cell (p := ⟨0, o * 4 + 1 + i, none⟩) h.1).trans (h.2 o i ho hi)⟩
theorem Tab.fr {S : Nat → Prop} {w w' : World} (h : Tab w) (f : Fr S w w') (hS : ¬ S 0) : Tab w' :=
  ⟨Nat.lt_of_lt_of_le h.1 f.size, fun o i ho hi => (f.cell h.1 hS).trans (h.2 o i ho hi)⟩
theorem Tab.alloc {w : World} (h : Tab w) (o : Obj) : Tab (w.alloc o) := h.next ((Below.refl _ _).alloc (Nat.le_refl _) _)
theorem Tab.drewN {w : World} (h : Tab w) (n : Nat) : Tab (w.drewN n) := h
theorem gTab : Tryd.prog.globalNamed "donjon/isa.ops" = some 0 := by kernel_rfl
theorem gTabType : (Tryd.prog.globals[0]?).map (·.type) = some 153 := by kernel_rfl
theorem tab_of {W : World} {l : List (String × DataW Unit)} (hl : l = [("donjon/isa.ops", Rows.laid_donjon_isa_ops)]) (h : laidMetH Tryd.prog l W) : Tab W := by
  subst hl
  obtain ⟨ps, ⟨g', t', cs, fuel, p, q, hg', ht', hvar, hd, _, _⟩, _⟩ := h
  obtain rfl := Option.some.inj (gTab.symm.trans hg')
  obtain rfl := Option.some.inj (gTabType.symm.trans ht')
  obtain ⟨xs, m, _, hx, hcl, hlen, hf⟩ := DataW.trod_array Tryd.underlying153 hd
  obtain ⟨y0, y1, y2, y3, y4, y5, y6, y7, y8, y9, y10, y11, rfl⟩ := list12 hlen
  simp only [Prod.mk.injEq, Rows.laid_donjon_isa_ops, DataW.agg.injEq, List.map_cons, List.map_nil, List.cons.injEq, and_true] at hx
  obtain ⟨⟨e0, e1, e2, e3, e4, e5, e6, e7, e8, e9, e10, e11⟩, _⟩ := hx
  have hb : ∀ i, W.cell? ⟨0, i, none⟩ = cs[i]? := fun i => World.var?_cell gTab hvar i
  have hlen2 : cs.toList.length = 48 := hcl.trans cells153
  have hsz : cs.size = 48 := by simpa using hlen2
  have key : ∀ (op : Nat) (a b c : Int), op < 12 → (∃ s, (cs.toList.drop (op * 4)).take 4 = [s, .int .i64 a, .int .i64 b, .int .i64 c]) → cs[op * 4 + 1 + 0]? = some (.int .i64 a) ∧ cs[op * 4 + 1 + 1]? = some (.int .i64 b) ∧ cs[op * 4 + 1 + 2]? = some (.int .i64 c) := by
    rintro op a b c ho ⟨s, hs⟩
    have at_ : ∀ j, j < 4 → cs[op * 4 + j]? = ((cs.toList.drop (op * 4)).take 4)[j]? := fun j hj => by
      rw [List.getElem?_take, if_pos hj, List.getElem?_drop, Array.getElem?_toList]
    have a1 := at_ 1 (by omega)
    have a2 := at_ 2 (by omega)
    have a3 := at_ 3 (by omega)
    rw [hs] at a1 a2 a3
    exact ⟨a1, a2, a3⟩
  have r0 := key 0 _ _ _ (by omega) (row_cells (by simpa [cells152] using hf 0 (by omega)) e0.symm)
  have r1 := key 1 _ _ _ (by omega) (row_cells (by simpa [cells152] using hf 1 (by omega)) e1.symm)
  have r2 := key 2 _ _ _ (by omega) (row_cells (by simpa [cells152] using hf 2 (by omega)) e2.symm)
  have r3 := key 3 _ _ _ (by omega) (row_cells (by simpa [cells152] using hf 3 (by omega)) e3.symm)
  have r4 := key 4 _ _ _ (by omega) (row_cells (by simpa [cells152] using hf 4 (by omega)) e4.symm)
  have r5 := key 5 _ _ _ (by omega) (row_cells (by simpa [cells152] using hf 5 (by omega)) e5.symm)
  have r6 := key 6 _ _ _ (by omega) (row_cells (by simpa [cells152] using hf 6 (by omega)) e6.symm)
  have r7 := key 7 _ _ _ (by omega) (row_cells (by simpa [cells152] using hf 7 (by omega)) e7.symm)
  have r8 := key 8 _ _ _ (by omega) (row_cells (by simpa [cells152] using hf 8 (by omega)) e8.symm)
  have r9 := key 9 _ _ _ (by omega) (row_cells (by simpa [cells152] using hf 9 (by omega)) e9.symm)
  have r10 := key 10 _ _ _ (by omega) (row_cells (by simpa [cells152] using hf 10 (by omega)) e10.symm)
  have r11 := key 11 _ _ _ (by omega) (row_cells (by simpa [cells152] using hf 11 (by omega)) e11.symm)
  refine ⟨?_, fun o i ho hi => ?_⟩
  · have := hb 0
    rcases Nat.lt_or_ge 0 W.heap.size with h' | h'
    · exact h'
    · have hn : W.cell? ⟨0, 0, none⟩ = none := by simp [World.cell?, Array.getElem?_eq_none h']
      rw [hn] at this
      rw [Array.getElem?_eq_getElem (by omega)] at this
      cases this
  · rw [hb]
    have io : i = 0 ∨ i = 1 ∨ i = 2 := by omega
    have oo : o = 0 ∨ o = 1 ∨ o = 2 ∨ o = 3 ∨ o = 4 ∨ o = 5 ∨ o = 6 ∨ o = 7 ∨ o = 8 ∨ o = 9 ∨ o = 10 ∨ o = 11 := by omega
    rcases oo with rfl | rfl | rfl | rfl | rfl | rfl | rfl | rfl | rfl | rfl | rfl | rfl <;> rcases io with rfl | rfl | rfl
    all_goals first | exact r0.1 | exact r0.2.1 | exact r0.2.2 | exact r1.1 | exact r1.2.1 | exact r1.2.2 | exact r2.1 | exact r2.2.1 | exact r2.2.2 | exact r3.1 | exact r3.2.1 | exact r3.2.2 | exact r4.1 | exact r4.2.1 | exact r4.2.2 | exact r5.1 | exact r5.2.1 | exact r5.2.2 | exact r6.1 | exact r6.2.1 | exact r6.2.2 | exact r7.1 | exact r7.2.1 | exact r7.2.2 | exact r8.1 | exact r8.2.1 | exact r8.2.2 | exact r9.1 | exact r9.2.1 | exact r9.2.2 | exact r10.1 | exact r10.2.1 | exact r10.2.2 | exact r11.1 | exact r11.2.1 | exact r11.2.2
end Go.Proofs.YtfiangiajhdhcaaDoor
