/- The table of package moesi: what its cells hold; it is kept behind calls that turn nothing that was there. -/
import Derived.Test.YtijhndmmljicmaaDoorRows
import Derived.WalkKit
import Derived.ProofKit
import Derived.OpenShut
import Derived.Below
import Derived.Deep.Draws
import Derived.Lib.LaidTab
namespace Go.Proofs.YtijhndmmljicmaaDoor
open Go.RowKit Go.ChangeShapes Go.WideShapes
theorem hide {p : Prop} (h : p) : Hid p := h
theorem unhide {p : Prop} (h : Hid p) : p := h
theorem ret_int {k : IntKind} {a b : Int} (h : a = b) : Ending.returned (.int k a) = .returned (.int k b) := by rw [h]
theorem ret_bool {a b : Bool} (h : a = b) : Ending.returned (.bool a) = .returned (.bool b) := by rw [h]
theorem cell_next {w w' : World} {p o : Nat} {v : Value} (h : Below w.heap.size w w') (hp : p < w.heap.size) (hc : w.cell? ⟨p, o, none⟩ = some v) : w'.cell? ⟨p, o, none⟩ = some v :=
  (h.cell (p := ⟨p, o, none⟩) hp).trans hc
theorem below_alloc {w w' : World} {o : Obj} (h : Below (w.alloc o).heap.size (w.alloc o) w') : Below w.heap.size w w' :=
  ((Below.refl _ _).alloc (Nat.le_refl _) _).trans (h.mono (by simp))
theorem below_drewN {B : Nat} {a w : World} (h : Below B a w) (n : Nat) : Below B a (w.drewN n) := ⟨h.os, h.tape, h.output, h.size, h.block⟩
theorem below_step {B : Nat} {a w w' : World} (h : Below B a w) (hB : B ≤ w.heap.size) (k : Below w.heap.size w w') : Below B a w' := h.trans (k.mono hB)
/-- The table's cells. -/
def tabL : List Value := [.string ⟨#[73]⟩, .bool false, .bool false, .bool false, .bool false, .int .i64 0, .int .i64 0, .string ⟨#[83]⟩, .bool true, .bool false, .bool false, .bool false, .int .i64 0, .int .i64 1, .string ⟨#[69]⟩, .bool true, .bool true, .bool false, .bool true, .int .i64 4, .int .i64 1, .string ⟨#[79]⟩, .bool true, .bool false, .bool true, .bool true, .int .i64 0, .int .i64 3, .string ⟨#[77]⟩, .bool true, .bool true, .bool true, .bool true, .int .i64 4, .int .i64 3]
/-- The table lies in block 0 as the program's text lays it. -/
def Tab (w : World) : Prop := 0 < w.heap.size ∧ ∀ k, k < 35 → w.cell? ⟨0, k, none⟩ = tabL[k]?
theorem Tab.next {w w' : World} (h : Tab w) (hb : Below w.heap.size w w') : Tab w' :=
  ⟨Nat.lt_of_lt_of_le h.1 hb.size, fun k hk => (hb.cell (p := ⟨0, k, none⟩) h.1).trans (h.2 k hk)⟩
theorem Tab.alloc {w : World} (h : Tab w) (o : Obj) : Tab (w.alloc o) := h.next ((Below.refl _ _).alloc (Nat.le_refl _) _)
theorem Tab.drewN {w : World} (h : Tab w) (n : Nat) : Tab (w.drewN n) := h
theorem Tab.row0 {w : World} (h : Tab w) : w.cell? ⟨0, 0, none⟩ = some (.string ⟨#[73]⟩) ∧ w.cell? ⟨0, 1, none⟩ = some (.bool false) ∧ w.cell? ⟨0, 2, none⟩ = some (.bool false) ∧ w.cell? ⟨0, 3, none⟩ = some (.bool false) ∧ w.cell? ⟨0, 4, none⟩ = some (.bool false) ∧ w.cell? ⟨0, 5, none⟩ = some (.int .i64 0) ∧ w.cell? ⟨0, 6, none⟩ = some (.int .i64 0) :=
  ⟨h.2 0 (by omega), h.2 1 (by omega), h.2 2 (by omega), h.2 3 (by omega), h.2 4 (by omega), h.2 5 (by omega), h.2 6 (by omega)⟩
theorem Tab.row1 {w : World} (h : Tab w) : w.cell? ⟨0, 7, none⟩ = some (.string ⟨#[83]⟩) ∧ w.cell? ⟨0, 8, none⟩ = some (.bool true) ∧ w.cell? ⟨0, 9, none⟩ = some (.bool false) ∧ w.cell? ⟨0, 10, none⟩ = some (.bool false) ∧ w.cell? ⟨0, 11, none⟩ = some (.bool false) ∧ w.cell? ⟨0, 12, none⟩ = some (.int .i64 0) ∧ w.cell? ⟨0, 13, none⟩ = some (.int .i64 1) :=
  ⟨h.2 7 (by omega), h.2 8 (by omega), h.2 9 (by omega), h.2 10 (by omega), h.2 11 (by omega), h.2 12 (by omega), h.2 13 (by omega)⟩
theorem Tab.row2 {w : World} (h : Tab w) : w.cell? ⟨0, 14, none⟩ = some (.string ⟨#[69]⟩) ∧ w.cell? ⟨0, 15, none⟩ = some (.bool true) ∧ w.cell? ⟨0, 16, none⟩ = some (.bool true) ∧ w.cell? ⟨0, 17, none⟩ = some (.bool false) ∧ w.cell? ⟨0, 18, none⟩ = some (.bool true) ∧ w.cell? ⟨0, 19, none⟩ = some (.int .i64 4) ∧ w.cell? ⟨0, 20, none⟩ = some (.int .i64 1) :=
  ⟨h.2 14 (by omega), h.2 15 (by omega), h.2 16 (by omega), h.2 17 (by omega), h.2 18 (by omega), h.2 19 (by omega), h.2 20 (by omega)⟩
theorem Tab.row3 {w : World} (h : Tab w) : w.cell? ⟨0, 21, none⟩ = some (.string ⟨#[79]⟩) ∧ w.cell? ⟨0, 22, none⟩ = some (.bool true) ∧ w.cell? ⟨0, 23, none⟩ = some (.bool false) ∧ w.cell? ⟨0, 24, none⟩ = some (.bool true) ∧ w.cell? ⟨0, 25, none⟩ = some (.bool true) ∧ w.cell? ⟨0, 26, none⟩ = some (.int .i64 0) ∧ w.cell? ⟨0, 27, none⟩ = some (.int .i64 3) :=
  ⟨h.2 21 (by omega), h.2 22 (by omega), h.2 23 (by omega), h.2 24 (by omega), h.2 25 (by omega), h.2 26 (by omega), h.2 27 (by omega)⟩
theorem Tab.row4 {w : World} (h : Tab w) : w.cell? ⟨0, 28, none⟩ = some (.string ⟨#[77]⟩) ∧ w.cell? ⟨0, 29, none⟩ = some (.bool true) ∧ w.cell? ⟨0, 30, none⟩ = some (.bool true) ∧ w.cell? ⟨0, 31, none⟩ = some (.bool true) ∧ w.cell? ⟨0, 32, none⟩ = some (.bool true) ∧ w.cell? ⟨0, 33, none⟩ = some (.int .i64 4) ∧ w.cell? ⟨0, 34, none⟩ = some (.int .i64 3) :=
  ⟨h.2 28 (by omega), h.2 29 (by omega), h.2 30 (by omega), h.2 31 (by omega), h.2 32 (by omega), h.2 33 (by omega), h.2 34 (by omega)⟩

section
variable {H : Type} {enc : TypeId × Value → H} {w : World} {base : Nat} {spare : Nat → Bool} {held : Bool}
theorem list7 {α : Type} {cs : List α} (h : cs.length = 7) : ∃ c0 c1 c2 c3 c4 c5 c6, cs = [c0, c1, c2, c3, c4, c5, c6] := by
  match cs, h with
  | [c0, c1, c2, c3, c4, c5, c6], _ => exact ⟨c0, c1, c2, c3, c4, c5, c6, rfl⟩
theorem list5 {α : Type} {cs : List α} (h : cs.length = 5) : ∃ c0 c1 c2 c3 c4, cs = [c0, c1, c2, c3, c4] := by
  match cs, h with
  | [c0, c1, c2, c3, c4], _ => exact ⟨c0, c1, c2, c3, c4, rfl⟩
theorem cells3 : Tryd.prog.cellsOf 3 = 1 := by kernel_rfl
theorem cells4 : Tryd.prog.cellsOf 4 = 1 := by kernel_rfl
theorem cells9 : Tryd.prog.cellsOf 9 = 1 := by kernel_rfl
theorem cells41 : Tryd.prog.cellsOf 41 = 7 := by kernel_rfl
theorem cells43 : Tryd.prog.cellsOf 43 = 35 := by kernel_rfl
theorem bytes_of {s : ByteArray} {b : UInt8} (h : s.data.toList = [b]) : s = ⟨#[b]⟩ := by
  obtain ⟨⟨l⟩⟩ := s
  simp at h
  subst h
  rfl
/-- One row of the table out of its reading. -/
theorem row_cells {n : Nat} {cs : List Value} {y : DataW H × List MemPlace} {b : UInt8} {b1 b2 b3 b4 : Bool} {i5 i6 : Int}
    (h : DataW.trod enc Tryd.prog w base spare held n 41 cs = some y) (hy : y.1 = .agg [.lit (.string [b]), .lit (.bool b1), .lit (.bool b2), .lit (.bool b3), .lit (.bool b4), .lit (.int .i64 i5), .lit (.int .i64 i6)]) :
    cs = [.string ⟨#[b]⟩, .bool b1, .bool b2, .bool b3, .bool b4, .int .i64 i5, .int .i64 i6] := by
  obtain ⟨xs, m, _, rfl, hl, hlen, hf⟩ := DataW.trod_struct Tryd.underlying41 h
  obtain ⟨c0, c1, c2, c3, c4, c5, c6, rfl⟩ := list7 (hl.trans cells41)
  obtain ⟨y0, y1, y2, y3, y4, y5, y6, rfl⟩ := list7 hlen
  have h0 := hf 0 _ rfl
  have h1 := hf 1 _ rfl
  have h2 := hf 2 _ rfl
  have h3 := hf 3 _ rfl
  have h4 := hf 4 _ rfl
  have h5 := hf 5 _ rfl
  have h6 := hf 6 _ rfl
  simp [cells3, cells4, cells9] at h0 h1 h2 h3 h4 h5 h6
  obtain ⟨s0, q0, rfl, _⟩ := DataW.trod_string Tryd.underlying9 h0
  obtain ⟨s1, q1, rfl⟩ := DataW.trod_bool Tryd.underlying4 h1
  obtain ⟨s2, q2, rfl⟩ := DataW.trod_bool Tryd.underlying4 h2
  obtain ⟨s3, q3, rfl⟩ := DataW.trod_bool Tryd.underlying4 h3
  obtain ⟨s4, q4, rfl⟩ := DataW.trod_bool Tryd.underlying4 h4
  obtain ⟨s5, q5, rfl, _⟩ := DataW.trod_int Tryd.underlying3 h5
  obtain ⟨s6, q6, rfl, _⟩ := DataW.trod_int Tryd.underlying3 h6
  simp at q0 q1 q2 q3 q4 q5 q6 hy
  obtain ⟨e0, e1, e2, e3, e4, e5, e6⟩ := hy
  subst q0 q1 q2 q3 q4 q5 q6 e1 e2 e3 e4 e5 e6
  rw [bytes_of e0]
end
theorem gTab : Tryd.prog.globalNamed "donjon/moesi.states" = some 0 := by kernel_rfl
theorem gTabType : (Tryd.prog.globals[0]?).map (·.type) = some 43 := by kernel_rfl
theorem tab_of {W : World} {l : List (String × DataW Unit)} (hl : l = [("donjon/moesi.states", Rows.laid_donjon_moesi_states)]) (h : laidMetH Tryd.prog l W) : Tab W := by
  subst hl
  obtain ⟨ps, ⟨g', t', cs, fuel, p, q, hg', ht', hvar, hd, _, _⟩, _⟩ := h
  obtain rfl := Option.some.inj (gTab.symm.trans hg')
  obtain rfl := Option.some.inj (gTabType.symm.trans ht')
  obtain ⟨xs, m, _, hx, hcl, hlen, hf⟩ := DataW.trod_array Tryd.underlying43 hd
  obtain ⟨y0, y1, y2, y3, y4, rfl⟩ := list5 hlen
  have h0 := hf 0 (by omega)
  have h1 := hf 1 (by omega)
  have h2 := hf 2 (by omega)
  have h3 := hf 3 (by omega)
  have h4 := hf 4 (by omega)
  simp only [cells41, List.getElem?_cons_zero, List.getElem?_cons_succ] at h0 h1 h2 h3 h4
  simp only [Prod.mk.injEq, Rows.laid_donjon_moesi_states, DataW.agg.injEq, List.map_cons, List.map_nil, List.cons.injEq, and_true] at hx
  obtain ⟨⟨e0, e1, e2, e3, e4⟩, _⟩ := hx
  have r0 := row_cells h0 e0.symm
  have r1 := row_cells h1 e1.symm
  have r2 := row_cells h2 e2.symm
  have r3 := row_cells h3 e3.symm
  have r4 := row_cells h4 e4.symm
  have hlen : cs.toList.length = 35 := hcl.trans cells43
  have hcs : cs.toList = tabL := by
    have a1 : cs.toList = cs.toList.take 7 ++ ((cs.toList.drop 7).take 7 ++ ((cs.toList.drop 14).take 7 ++ ((cs.toList.drop 21).take 7 ++ (cs.toList.drop 28).take 7))) := by
      have t1 := (List.take_append_drop 7 cs.toList).symm
      have t2 := (List.take_append_drop 7 (cs.toList.drop 7)).symm
      have t3 := (List.take_append_drop 7 (cs.toList.drop 14)).symm
      have t4 := (List.take_append_drop 7 (cs.toList.drop 21)).symm
      have t5 : (cs.toList.drop 28).take 7 = cs.toList.drop 28 := List.take_of_length_le (by simp at hlen ⊢; omega)
      simp only [List.drop_drop] at t2 t3 t4
      rw [t5]
      conv => lhs; rw [t1, t2, t3, t4]
    rw [a1]
    simp at r0 r1 r2 r3 r4
    rw [r0, r1, r2, r3, r4]
    rfl
  have hb : ∀ i, W.cell? ⟨0, i, none⟩ = cs[i]? := fun i => World.var?_cell gTab hvar i
  refine ⟨?_, fun k hk => ?_⟩
  · have := hb 0
    rcases Nat.lt_or_ge 0 W.heap.size with h' | h'
    · exact h'
    · have hn : W.cell? ⟨0, 0, none⟩ = none := by simp [World.cell?, Array.getElem?_eq_none h']
      rw [hn] at this
      have h35 : cs.size = 35 := by simpa using hlen
      rw [Array.getElem?_eq_getElem (by omega)] at this
      cases this
  · rw [hb k, ← hcs]
    simp
end Go.Proofs.YtijhndmmljicmaaDoor
