/- The table of layer 8 at the numbers of this seat. -/
import Derived.Test.YtfikiophfphmbaaV1
import Derived.WalkKit
import Derived.WalkSpells
import Derived.ProofKit
import Derived.Outline
import Derived.Handy
import Derived.RowKit3
import Derived.BigQuiet
import Derived.Deep.QuietTactic
import Derived.Deep.RegionHeld3
import Derived.Deep.Draws
import Derived.Deep.RegionLaw
import Derived.RegionTactic
import Derived.BigRegion
import Derived.IntWalk
import Derived.LoopTactic
import Derived.OwnWalk
import Derived.Laws.AppendOwn
import Derived.Laws.OwnMore
import Derived.Laws.MakeOwn
import Derived.Laws.Pointers
import Derived.Maps.AppendAt
import Derived.Deep.AppendLies
import Derived.Below
namespace Go.Proofs.Ytfikiophfphmbaa
open Go.RowKit
set_option linter.unusedVariables false
set_option maxRecDepth 100000

theorem bool_eq {a b : Bool} (h : a = b) : Value.bool a = Value.bool b := by rw [h]
/-- A table at block P, its entries in block E: owners o, locks l. -/
def Tb (w : World) (P E n : Nat) (o : Nat → Int) (l : Nat → Bool) : Prop :=
  P < w.heap.size ∧ E < w.heap.size ∧ P ≠ E ∧ (∃ cp, n ≤ cp ∧ w.cell? ⟨P, 0, none⟩ = some (.slice (some ⟨E, 0, none⟩) n cp)) ∧
  ∀ j, j < n → w.cell? ⟨E, j * 2, none⟩ = some (.int .i64 (o j)) ∧ w.cell? ⟨E, j * 2 + 1, none⟩ = some (.bool (l j)) ∧ w.frozen? ⟨E, j * 2, none⟩ = false ∧ w.frozen? ⟨E, j * 2 + 1, none⟩ = false
theorem Tb.next {w w' : World} {P E n : Nat} {o : Nat → Int} {l : Nat → Bool} (h : Tb w P E n o l) (hb : Below w.heap.size w w') : Tb w' P E n o l := by
  obtain ⟨h1, h2, h3, h4, h5⟩ := h
  exact ⟨Nat.lt_of_lt_of_le h1 hb.size, Nat.lt_of_lt_of_le h2 hb.size, h3, h4.imp fun cp h => ⟨h.1, cell_next hb h1 h.2⟩, fun j hj => ⟨cell_next hb h2 (h5 j hj).1, cell_next hb h2 (h5 j hj).2.1, (hb.frozen (p := ⟨E, j * 2, none⟩) h2).trans (h5 j hj).2.2.1, (hb.frozen (p := ⟨E, j * 2 + 1, none⟩) h2).trans (h5 j hj).2.2.2⟩⟩
theorem Tb.alloc {w : World} {P E n : Nat} {o : Nat → Int} {l : Nat → Bool} (h : Tb w P E n o l) (x : Obj) : Tb (w.alloc x) P E n o l := h.next ((Below.refl _ _).alloc (Nat.le_refl _) _)
theorem Tb.drewN {w : World} {P E n : Nat} {o : Nat → Int} {l : Nat → Bool} (h : Tb w P E n o l) (k : Nat) : Tb (w.drewN k) P E n o l := h.next (below_drewN (Below.refl _ _) k)
theorem tb_drew {w : World} {P E n : Nat} {o : Nat → Int} {l : Nat → Bool} (h : Tb w P E n o l) : Tb w.drew P E n o l := h
def upd {α : Type} (f : Nat → α) (j : Nat) (x : α) : Nat → α := fun i => if i = j then x else f i
/-- The entry j stored. -/
theorem Tb.set {w : World} {P E n : Nat} {o : Nat → Int} {l : Nat → Bool} (h : Tb w P E n o l) {j : Nat} (hj : j < n) (x : Int) (b : Bool) :
    Tb ((w.setCell ⟨E, j * 2, none⟩ (.int .i64 x)).setCell ⟨E, j * 2 + 1, none⟩ (.bool b)) P E n (upd o j x) (upd l j b) := by
  obtain ⟨h1, h2, h3, h4, h5⟩ := h
  have c0 := (h5 j hj).1
  have c1 := (h5 j hj).2.1
  have s0 : (w.setCell ⟨E, j * 2, none⟩ (.int .i64 x)).cell? ⟨E, j * 2, none⟩ = some (.int .i64 x) := World.cell?_setCell_same' _ _ _ (by rw [c0]; rfl)
  have s1 : (w.setCell ⟨E, j * 2, none⟩ (.int .i64 x)).cell? ⟨E, j * 2 + 1, none⟩ = some (.bool (l j)) := by rw [setCell_cell_other (by simp)]; exact c1
  refine ⟨by simpa [World.setCell] using h1, by simpa [World.setCell] using h2, h3, ?_, fun i hi => ?_⟩
  · refine h4.imp fun cp h => ⟨h.1, ?_⟩
    rw [setCell_cell_other (fun e => h3 (by injection e)), setCell_cell_other (fun e => h3 (by injection e))]; exact h.2
  · obtain ⟨a1, a2, a3, a4⟩ := h5 i hi
    refine ⟨?_, ?_, by simpa [World.frozen?_setCell] using a3, by simpa [World.frozen?_setCell] using a4⟩
    · by_cases e : i = j
      · subst e
        rw [setCell_cell_other (by simp), s0]
        simp [upd]
      · rw [setCell_cell_other (by intro q; injection q with q1 q2; omega), setCell_cell_other (by intro q; injection q with q1 q2; omega), a1]
        simp [upd, e]
    · by_cases e : i = j
      · subst e
        rw [World.cell?_setCell_same' _ _ _ (by rw [s1]; rfl)]
        simp [upd]
      · rw [setCell_cell_other (by intro q; injection q with q1 q2; omega), setCell_cell_other (by intro q; injection q with q1 q2; omega), a2]
        simp [upd, e]
theorem run_make_rowN {P : Program} (t e : TypeId) (i : TypeInfo) (z : Value) (ht : P.underlying t = some (.slice e)) (hi : P.info? e = some i) (hz : i.zero = some z)
    (kl kc : IntKind) (n c : Nat) (hnc : n ≤ c) (hbytes : i.bytes * c ≤ 281474976710656) (h63 : c ≤ 9223372036854775807) (w : World) :
    (Instr.makeSlice t (.int kl (n : Int)) (.int kc (c : Int))).run P w = .ok (.slice (some ⟨w.heap.size, 0, none⟩) n c) (w.alloc (.cells (madeCells z.cells (c * i.size)) e)) := by
  have hb : (i.bytes : Int) * (c : Int) ≤ 281474976710656 := by
    have h : ((i.bytes * c : Nat) : Int) ≤ 281474976710656 := by omega
    rwa [Int.natCast_mul] at h
  have hr := run_make (P := P) w t e i z ht hi hz kl kc n c (by omega) (by omega) hb (by omega)
  simp only [Int.toNat_natCast] at hr
  exact hr

theorem only_drew {a w : World} {row : Option Nat} (h : a.grownBy w row) : a.grownBy w.drew row := ⟨h.os, h.tape, h.output, h.size, h.block⟩
theorem only_alloc {a w : World} {row : Option Nat} (h : a.grownBy w row) (o : Obj) : a.grownBy (w.alloc o) row :=
  ⟨h.os, h.tape, h.output, Nat.le_trans h.size (by simp), fun i hi hne => (Below.heap_alloc w o i (Nat.lt_of_lt_of_le hi h.size)).trans (h.block i hi hne)⟩
theorem only_setCell {a w : World} {g : Nat} (h : a.grownBy w (some g)) {p : Addr} (hp : p.block = g ∨ a.heap.size ≤ p.block) (u : Value) : a.grownBy (w.setCell p u) (some g) :=
  ⟨h.os, h.tape, h.output, by simpa [World.setCell] using h.size, fun i hi hne => (Below.heap_setCell w p u i (by
    rintro rfl
    rcases hp with hp | hp
    · exact hne (by rw [hp])
    · omega)).trans (h.block i hi hne)⟩
theorem only_refl (a : World) (row : Option Nat) : a.grownBy a row := ⟨rfl, rfl, rfl, Nat.le_refl _, fun _ _ _ => rfl⟩
theorem only_of_below {a w : World} (h : Below a.heap.size a w) (row : Option Nat) : a.grownBy w row := ⟨h.os, h.tape, h.output, h.size, fun i hi _ => h.block i hi⟩
theorem made_cell (n k : Nat) (hk : k < n * 2) : (madeCells #[.int .i64 0, .bool false] (n * 2))[k]? = some (if k % 2 = 0 then .int .i64 0 else .bool false) := by
  simp only [madeCells, Array.getElem?_map, Array.getElem?_range, hk, if_true, Option.map_some]
  have : k % 2 = 0 ∨ k % 2 = 1 := by omega
  rcases this with h | h <;> simp [h]
theorem tb_new (w : World) (n : Nat) : Tb ((w.alloc (.cells (madeCells #[.int .i64 0, .bool false] (n * 2)) 34)).alloc (.cells #[.slice (some ⟨w.heap.size, 0, none⟩) n n] 71)) (w.heap.size + 1) w.heap.size n (fun _ => 0) (fun _ => false) := by
  refine ⟨by simp, by simp; omega, by omega, ⟨n, Nat.le_refl _, by simp [go_sem]⟩, fun j hj => ?_⟩
  have a0 := made_cell n (j * 2) (by omega)
  have a1 := made_cell n (j * 2 + 1) (by omega)
  rw [if_pos (by omega)] at a0
  rw [if_neg (by omega)] at a1
  have b0 : (w.alloc (.cells (madeCells #[.int .i64 0, .bool false] (n * 2)) 34)).cell? ⟨w.heap.size, j * 2, none⟩ = some (.int .i64 0) := (World.cell?_alloc_new _ _ _ _).trans a0
  have b1 : (w.alloc (.cells (madeCells #[.int .i64 0, .bool false] (n * 2)) 34)).cell? ⟨w.heap.size, j * 2 + 1, none⟩ = some (.bool false) := (World.cell?_alloc_new _ _ _ _).trans a1
  have f0 : (w.alloc (.cells (madeCells #[.int .i64 0, .bool false] (n * 2)) 34)).frozen? ⟨w.heap.size, j * 2, none⟩ = false := World.frozen?_alloc_new _ _ _ _
  have f1 : (w.alloc (.cells (madeCells #[.int .i64 0, .bool false] (n * 2)) 34)).frozen? ⟨w.heap.size, j * 2 + 1, none⟩ = false := World.frozen?_alloc_new _ _ _ _
  have hb : Below (w.alloc (.cells (madeCells #[.int .i64 0, .bool false] (n * 2)) 34)).heap.size (w.alloc (.cells (madeCells #[.int .i64 0, .bool false] (n * 2)) 34)) ((w.alloc (.cells (madeCells #[.int .i64 0, .bool false] (n * 2)) 34)).alloc (.cells #[.slice (some ⟨w.heap.size, 0, none⟩) n n] 71)) := (Below.refl _ _).alloc (Nat.le_refl _) _
  have lt : w.heap.size < (w.alloc (.cells (madeCells #[.int .i64 0, .bool false] (n * 2)) 34)).heap.size := by simp
  exact ⟨cell_next hb lt b0, cell_next hb lt b1, (hb.frozen (p := ⟨w.heap.size, j * 2, none⟩) lt).trans f0, (hb.frozen (p := ⟨w.heap.size, j * 2 + 1, none⟩) lt).trans f1⟩

theorem info34 : (Try.prog.info? 34).map (fun i => (i.zero, i.size, i.bytes)) = some (some (.agg #[.int .i64 0, .bool false]), 2, 16) := by kernel_rfl
theorem has_yes (P E n j : Nat) (o : Nat → Int) (l : Nat → Bool) (hj : j < n) (w : World) (hT : Tb w P E n o l) : Calls Try.prog 26 #[.pointer (some ⟨P, 0, none⟩), .int .i64 j] w fun r w' => r = .returned (.bool true) ∧ w = w' := by
  obtain ⟨cp, hcp, c⟩ := hT.2.2.2.1
  clear hT
  have e : decide ((j : Int) < n) = true := by simp; omega
  have e2 : decide (j < n) = true := by simpa using hj
  go_enter Try.func26, Try.ntmps26
  go_wp2
  go_ret
  exact ⟨rfl, rfl⟩
theorem has_no (P E n : Nat) (j : Int) (o : Nat → Int) (l : Nat → Bool) (hj : ¬ (0 ≤ j ∧ j < n)) (w : World) (hT : Tb w P E n o l) : Calls Try.prog 26 #[.pointer (some ⟨P, 0, none⟩), .int .i64 j] w fun r w' => r = .returned (.bool false) ∧ w = w' := by
  obtain ⟨cp, hcp, c⟩ := hT.2.2.2.1
  clear hT
  by_cases h0 : 0 ≤ j
  · have e : decide (j < n) = false := by simp; omega
    replace hj := hide hj
    go_enter Try.func26, Try.ntmps26
    go_wp2
    go_ret
    exact ⟨rfl, rfl⟩
  · replace hj := hide hj
    go_enter Try.func26, Try.ntmps26
    go_wp2
    go_ret
    exact ⟨rfl, rfl⟩
theorem new_no (n : Int) (h : decide (1 ≤ n ∧ n ≤ 16) = false) (w : World) : Calls Try.prog 10 #[.int .i64 n] w fun r w' => r = .returned (.tuple #[.pointer none, .int .i64 10]) ∧ w = w' := by
  have H := hide h
  clear h
  go_enter Try.func10, Try.ntmps10
  go_wp2_with fail
  refine (may_v n false H.out _).mono ?_
  rintro r w1 ⟨rfl, rfl⟩
  go_wp2
  go_ret2
  exact ⟨rfl, rfl⟩
theorem tnew_yes (n : Nat) (h1 : 1 ≤ n) (h2 : n ≤ 16) (w : World) : Calls Try.prog 10 #[.int .i64 n] w fun r w' => ∃ P E, r = .returned (.tuple #[.pointer (some ⟨P, 0, none⟩), .int .i64 0]) ∧ w.heap.size ≤ P ∧ w.heap.size ≤ E ∧ Tb w' P E n (fun _ => 0) (fun _ => false) ∧ Below w.heap.size w w' := by
  obtain ⟨i0, hi, hz0, hz1, hz2⟩ := info_parts info34
  have hmk := fun W => run_make_rowN (P := Try.prog) 52 34 i0 (.agg #[.int .i64 0, .bool false]) Try.underlying52 hi hz0 .i64 .i64 n n (Nat.le_refl _) (by rw [hz2]; omega) (by omega) W
  have hm := hide (show decide (1 ≤ (n : Int) ∧ (n : Int) ≤ 16) = true by simp; omega)
  go_enter Try.func10, Try.ntmps10
  go_wp2_with fail
  refine (may_v n true hm.out _).mono ?_
  rintro r w1 ⟨rfl, rfl⟩
  go_wp2
  go_ret2
  exact ⟨w.heap.size + 1, w.heap.size, rfl, by omega, by omega, tb_new w n, ((Below.refl _ _).alloc (Nat.le_refl _) _).alloc (by simp) _⟩
set_option maxHeartbeats 2000000 in
theorem set_yes (P E n j : Nat) (o : Nat → Int) (l : Nat → Bool) (x : Int) (b : Bool) (hj : j < n) (hx : decide (0 ≤ x ∧ x ≤ 4) = true) (w : World) (hT : Tb w P E n o l) :
    Calls Try.prog 11 #[.pointer (some ⟨P, 0, none⟩), .int .i64 j, .agg #[.int .i64 x, .bool b]] w fun r w' => r = .returned (.int .i64 0) ∧ Tb w' P E n (upd o j x) (upd l j b) ∧ w.grownBy w' (some E) := by
  have HT := hide hT
  have HX := hide hx
  have hjn : (j : Int) < n := by omega
  clear hT hx
  go_enter Try.func11, Try.ntmps11
  go_wp2_with fail
  refine (has_yes P E n j o l hj _ ((show Tb w P E n o l from HT.out).alloc _)).mono ?_
  rintro r w1 ⟨rfl, rfl⟩
  go_wp2_with fail
  refine (owns_v x true HX.out _).mono ?_
  rintro r w1 ⟨rfl, rfl⟩
  obtain ⟨h1, h2, h3, ⟨cp, hcp, c⟩, h5⟩ := (show Tb w P E n o l from HT.out).alloc (.cells #[.int .i64 x, .bool b] 34)
  obtain ⟨d0, d1, d2, d3⟩ := h5 j hj
  clear h5
  have fin1 := hide (((show Tb w P E n o l from HT.out).alloc (.cells #[.int .i64 x, .bool b] 34)).set hj x b)
  have fin2 := hide (only_setCell (only_setCell (only_alloc (only_refl w (some E)) (.cells #[.int .i64 x, .bool b] 34)) (p := ⟨E, j * 2, none⟩) (.inl rfl) (.int .i64 x)) (p := ⟨E, j * 2 + 1, none⟩) (.inl rfl) (.bool b))
  go_wp2
  go_region
  go_wp2
  go_ret
  refine ⟨rfl, ?_, only_drew ?_⟩
  · exact tb_drew fin1.out
  · exact fin2.out
theorem set_out (P E n : Nat) (j : Int) (o : Nat → Int) (l : Nat → Bool) (x : Int) (b : Bool) (hj : ¬ (0 ≤ j ∧ j < n)) (w : World) (hT : Tb w P E n o l) :
    Calls Try.prog 11 #[.pointer (some ⟨P, 0, none⟩), .int .i64 j, .agg #[.int .i64 x, .bool b]] w fun r w' => r = .returned (.int .i64 10) ∧ Below w.heap.size w w' := by
  have HT := hide hT
  replace hj := hide hj
  clear hT
  go_enter Try.func11, Try.ntmps11
  go_wp2_with fail
  refine (has_no P E n j o l hj.out _ ((show Tb w P E n o l from HT.out).alloc _)).mono ?_
  rintro r w1 ⟨rfl, rfl⟩
  go_wp2
  go_ret
  exact ⟨rfl, (Below.refl _ _).alloc (Nat.le_refl _) _⟩
theorem set_bad (P E n j : Nat) (o : Nat → Int) (l : Nat → Bool) (x : Int) (b : Bool) (hj : j < n) (hx : decide (0 ≤ x ∧ x ≤ 4) = false) (w : World) (hT : Tb w P E n o l) :
    Calls Try.prog 11 #[.pointer (some ⟨P, 0, none⟩), .int .i64 j, .agg #[.int .i64 x, .bool b]] w fun r w' => r = .returned (.int .i64 10) ∧ Below w.heap.size w w' := by
  have HT := hide hT
  have HX := hide hx
  clear hT hx
  go_enter Try.func11, Try.ntmps11
  go_wp2_with fail
  refine (has_yes P E n j o l hj _ ((show Tb w P E n o l from HT.out).alloc _)).mono ?_
  rintro r w1 ⟨rfl, rfl⟩
  go_wp2_with fail
  refine (owns_v x false HX.out _).mono ?_
  rintro r w1 ⟨rfl, rfl⟩
  go_wp2
  go_ret
  exact ⟨rfl, (Below.refl _ _).alloc (Nat.le_refl _) _⟩
theorem get_yes (P E n j : Nat) (o : Nat → Int) (l : Nat → Bool) (hj : j < n) (w : World) (hT : Tb w P E n o l) :
    Calls Try.prog 17 #[.pointer (some ⟨P, 0, none⟩), .int .i64 j] w fun r w' => r = .returned (.tuple #[.agg #[.int .i64 (o j), .bool (l j)], .int .i64 0]) ∧ Below w.heap.size w w' := by
  have HT := hide hT
  have hjn : (j : Int) < n := by omega
  clear hT
  go_enter Try.func17, Try.ntmps17
  go_wp2_with fail
  refine (has_yes P E n j o l hj _ ((show Tb w P E n o l from HT.out).alloc _)).mono ?_
  rintro r w1 ⟨rfl, rfl⟩
  obtain ⟨h1, h2, h3, ⟨cp, hcp, c⟩, h5⟩ := (show Tb w P E n o l from HT.out).alloc (.cells #[.int .i64 0, .bool false] 34)
  obtain ⟨d0, d1, d2, d3⟩ := h5 j hj
  clear h5
  go_wp2
  exact bodyPost_ret (v := .tuple #[.agg #[.int .i64 (o j), .bool (l j)], .int .i64 0]) (by simp [results, Try.results17, go_sem]) rfl ⟨rfl, by repeat (first | exact Below.refl _ _ | refine Below.setCell ?_ (by simp) _ | refine Below.alloc ?_ (by simp) _)⟩
theorem get_no (P E n : Nat) (j : Int) (o : Nat → Int) (l : Nat → Bool) (hj : ¬ (0 ≤ j ∧ j < n)) (w : World) (hT : Tb w P E n o l) :
    Calls Try.prog 17 #[.pointer (some ⟨P, 0, none⟩), .int .i64 j] w fun r w' => r = .returned (.tuple #[.agg #[.int .i64 0, .bool false], .int .i64 10]) ∧ Below w.heap.size w w' := by
  have HT := hide hT
  replace hj := hide hj
  clear hT
  go_enter Try.func17, Try.ntmps17
  go_wp2_with fail
  refine (has_no P E n j o l hj.out _ ((show Tb w P E n o l from HT.out).alloc _)).mono ?_
  rintro r w1 ⟨rfl, rfl⟩
  go_wp2
  exact bodyPost_ret (v := .tuple #[.agg #[.int .i64 0, .bool false], .int .i64 10]) (by simp [results, Try.results17, go_sem]) rfl ⟨rfl, by repeat (first | exact Below.refl _ _ | refine Below.setCell ?_ (by simp) _ | refine Below.alloc ?_ (by simp) _)⟩
def plB (n : Nat) (o : Nat → Int) (l : Nat → Bool) (a : Nat) : Bool := (List.range 4).all fun i => decide (4 * a + i < n → o (4 * a + i) = o (4 * a) ∧ l (4 * a + i) = false)
theorem plB_iff (n : Nat) (o : Nat → Int) (l : Nat → Bool) (a : Nat) : plB n o l a = true ↔ ∀ i, i < 4 → 4 * a + i < n → o (4 * a + i) = o (4 * a) ∧ l (4 * a + i) = false := by
  simp only [plB, List.all_eq_true, List.mem_range, decide_eq_true_eq]
theorem plB_no {n : Nat} {o : Nat → Int} {l : Nat → Bool} {a i : Nat} (hi : i < 4) (hn : 4 * a + i < n) (h : ¬ (o (4 * a + i) = o (4 * a) ∧ l (4 * a + i) = false)) : plB n o l a = false := by
  cases hh : plB n o l a
  · rfl
  · exact absurd ((plB_iff n o l a).1 hh i hi hn) h
def PlRel (P E n a : Nat) (o : Nat → Int) (l : Nat → Bool) (w : World) (m : Nat) (v5 v : Value) (wr : World) : Prop :=
  ∃ k : Nat, k ≤ m ∧ v5 = .bool true ∧ v = .int .i64 k ∧ (∀ j, j < k → o (4 * a + j) = o (4 * a) ∧ l (4 * a + j) = false) ∧ Tb wr P E n o l ∧ Below w.heap.size w wr ∧ w.heap.size < wr.heap.size ∧ wr.cell? ⟨w.heap.size, 0, none⟩ = some (.int .i64 (o (4 * a))) ∧ wr.cell? ⟨w.heap.size, 1, none⟩ = some (.bool false)
set_option maxHeartbeats 2000000 in
theorem plain_any (P E n at_ : Nat) (o : Nat → Int) (l : Nat → Bool) (h : 4 * at_ < n) (hn : n ≤ 16) (w : World) (hT : Tb w P E n o l) : Calls Try.prog 47 #[.pointer (some ⟨P, 0, none⟩), .int .i64 at_] w fun r w' => r = .returned (.tuple #[.int .i64 (o (4 * at_)), .bool (plB n o l at_)]) ∧ Below w.heap.size w w' := by
  have HT := hide hT
  obtain ⟨cp, hcp, c⟩ := hT.2.2.2.1
  have d := hT.2.2.2.2 (4 * at_) h
  obtain ⟨d0, d1, -, -⟩ := d
  clear hT
  have hEb := HT.out.2.1
  have hPb := HT.out.1
  have z1 : (4 * (at_ : Int)).toNat = 4 * at_ := by omega
  have z2 : 4 * (at_ : Int) < n := by omega
  obtain ⟨M, m, hM, hm, hm1, hm2, hm3⟩ : ∃ M m : Nat, (if (n : Int) < 4 * at_ + 4 then (n : Int) else 4 * at_ + 4) = (M : Int) ∧ M - 4 * at_ = m ∧ m ≤ 4 ∧ 4 * at_ + m ≤ n ∧ (m < 4 → 4 * at_ + m = n) := ⟨if n < 4 * at_ + 4 then n else 4 * at_ + 4, _, by split <;> split <;> omega, rfl, by split <;> omega, by split <;> omega, by split <;> omega⟩
  have hMn : (M : Int) ≤ n := by rw [← hM]; split <;> omega
  have hMn2 : M ≤ cp := by omega
  have hMc : (M : Int) ≤ cp := by omega
  have hMa : 4 * (at_ : Int) ≤ M := by rw [← hM]; split <;> omega
  go_enter Try.func47, Try.ntmps47
  go_wp2
  go_step3
  go_wp2
  go_step3
  go_wp2
  go_region
  replace hm := hide hm
  replace hM := hide hM
  go_wp2
  go_loopw [5, 36] (fun v5 v36 wr => PlRel P E n at_ o l w m v5 v36 wr) (fun _ v36 _ => m - (intOf v36).toNat)
  case atStart => exact ⟨0, Nat.zero_le _, rfl, rfl, fun j hj => by omega, tb_drew (HT.out.alloc _), below_drew0 ((Below.refl _ _).alloc (Nat.le_refl _) _), by simp, by simp [go_sem], by simp [go_sem]⟩
  case round =>
    obtain ⟨k, hk, rfl, rfl, hall, hTr, hB, hsz, e0, e1⟩ := hrel
    have hTr' := hide hTr
    by_cases hlt : k < m
    · obtain ⟨a1, a2, a3, a4, a5⟩ := hTr
      obtain ⟨b0, b1, -, -⟩ := a5 (4 * at_ + k) (by omega)
      clear a5
      have b0' : wr.cell? ⟨E, 4 * at_ * 2 + k * 2, none⟩ = some (.int .i64 (o (4 * at_ + k))) := by rw [← Nat.add_mul]; exact b0
      have b1' : wr.cell? ⟨E, 4 * at_ * 2 + k * 2 + 1, none⟩ = some (.bool (l (4 * at_ + k))) := by rw [← Nat.add_mul]; exact b1
      replace hall := hide hall
      by_cases hs : o (4 * at_ + k) = o (4 * at_) ∧ l (4 * at_ + k) = false
      · obtain ⟨s1, s2⟩ := hs
        have S1 := hide s1
        have S2 := hide s2
        go_wp2
        refine ⟨⟨k + 1, by omega, rfl, int_eq (by omega), fun j hj => ?_, hTr'.out.alloc _, hB.alloc (Nat.le_of_lt hsz) _, by simp; omega, cell_next ((Below.refl _ _).alloc (Nat.le_refl _) _) hsz e0, cell_next ((Below.refl _ _).alloc (Nat.le_refl _) _) hsz e1⟩, by simp [intOf]; omega⟩
        by_cases hj2 : j = k
        · rw [hj2]; exact ⟨S1.out, S2.out⟩
        · exact hall.out j (by omega)
      · have hb := hide (hB.alloc (Nat.le_of_lt hsz) (.cells #[.int .i64 (o (4 * at_ + k)), .bool (l (4 * at_ + k))] 34))
        have hp := hide (plB_no (n := n) (o := o) (l := l) (a := at_) (i := k) (by omega) (by omega) hs)
        have E0 := hide (cell_next ((Below.refl wr.heap.size _).alloc (Nat.le_refl _) (.cells #[.int .i64 (o (4 * at_ + k)), .bool (l (4 * at_ + k))] 34)) hsz e0)
        by_cases s1 : o (4 * at_ + k) = o (4 * at_)
        · have s2 : l (4 * at_ + k) = true := by
            cases hq : l (4 * at_ + k)
            · exact absurd ⟨s1, hq⟩ hs
            · rfl
          replace hs := hide hs
          rw [s1, s2] at hb E0
          go_wp2
          try rw [Exit.noGoto_ret]
          go_ret2
          exact ⟨by rw [hp.out]; rfl, hb.out⟩
        · have f0 : (o (4 * at_ + k) == o (4 * at_)) = false := by simpa using s1
          replace s1 := hide s1
          replace hs := hide hs
          go_wp2
          try rw [Exit.noGoto_ret]
          go_ret2
          exact ⟨by rw [hp.out]; rfl, hb.out⟩
    · obtain rfl : k = m := by omega
      have hp := hide ((plB_iff n o l at_).2 (fun i hi hn' => hall i (by by_cases k < 4 <;> omega)))
      clear hall
      go_wp2
      try rw [Exit.noGoto_ret]
      go_ret2
      exact ⟨by rw [hp.out]; rfl, hB⟩

theorem plain_v (P E n at_ : Nat) (o : Nat → Int) (l : Nat → Bool) (h : 4 * at_ < n) (hn : n ≤ 16) (v : Bool) (hv : plB n o l at_ = v) (w : World) (hT : Tb w P E n o l) : Calls Try.prog 47 #[.pointer (some ⟨P, 0, none⟩), .int .i64 at_] w fun r w' => r = .returned (.tuple #[.int .i64 (o (4 * at_)), .bool v]) ∧ Below w.heap.size w w' := by
  subst hv; exact plain_any P E n at_ o l h hn w hT
theorem owns_form {w : World} {base size n : Nat} {e : TypeId} {v : Value} {xs : List Value} (h : w.ownsRow base e size v n xs) (hn : 0 < n) : ∃ g cap, v = .slice (some ⟨g, 0, none⟩) n cap := by
  rcases h.2 with ⟨_, h0⟩ | ⟨g, cap, _, hv, _⟩
  · omega
  · exact ⟨g, cap, hv⟩
theorem box_grown {w w1 : World} {Bx base k : Nat} {v : Value} {xs : List Value} {x : Obj} (hbox : w.heap[Bx]? = some (.cells #[v] 79 (0, 0))) (hown : w.ownsRow base 3 1 v k xs) (hg : (w.alloc x).grownBy w1 v.ownBlock) : w1.heap[Bx]? = some (.cells #[v] 79 (0, 0)) := by
  have lt := lt_of_block hbox
  have hne : some Bx ≠ v.ownBlock := by
    obtain ⟨h1, ⟨e, -⟩ | ⟨g, cap, cur, hv, hg, hh, r⟩⟩ := hown
    · subst e; simp [Value.ownBlock]
    · subst hv
      simp only [Value.ownBlock]
      intro e
      injection e with e
      subst e
      rw [hh] at hbox
      simp at hbox
  exact (hg.block Bx (by simp; omega) hne).trans ((Below.heap_alloc w x Bx lt).trans hbox)
theorem own_ne {w : World} {Bx base k : Nat} {u v : Value} {xs : List Value} (hbox : w.heap[Bx]? = some (.cells #[u] 79 (0, 0))) (hown : w.ownsRow base 3 1 v k xs) : v.ownBlock ≠ some Bx := by
  obtain ⟨h1, ⟨e, -⟩ | ⟨g, cap, cur, hv, hg, hh, r⟩⟩ := hown
  · subst e; simp [Value.ownBlock]
  · subst hv
    simp only [Value.ownBlock]
    intro e
    injection e with e
    subst e
    rw [hh] at hbox
    simp at hbox
set_option maxHeartbeats 2000000 in
theorem put_any (a f : Int) (b : Bool) (ha0 : 0 ≤ a) (ha : a ≤ 1000) (hf0 : 0 ≤ f) (hf : f ≤ 1000) (x : Int) (hx : (if b then a + f else a) = x) (Bx base k : Nat) (v : Value) (xs : List Value) (w : World) (hbox : w.heap[Bx]? = some (.cells #[v] 79 (0, 0))) (hown : w.ownsRow base 3 1 v k xs) (hk : k ≤ 100) (hbase : base ≤ Bx) :
    Calls Try.prog 46 #[.int .i64 a, .int .i64 f, .bool b, .pointer (some ⟨Bx, 0, none⟩)] w fun r w' => r = .returned (.tuple #[]) ∧ ∃ v', w'.heap[Bx]? = some (.cells #[v'] 79 (0, 0)) ∧ w'.ownsRow base 3 1 v' (k + 1) (xs ++ [.int .i64 x]) ∧ Below base w w' := by
  obtain ⟨i0, hi, hz0, hz1, hz2⟩ := info_parts info3
  have c := cell_of_one hbox
  have fz := free_of_one hbox
  have lt := lt_of_block hbox
  have HB := hide hbox
  clear hbox
  subst hx
  cases b
  · go_enter Try.func46, Try.ntmps46
    go_wp2_with (at_builtin; refine wpList_append_own _ rfl _ _ 79 rfl base 3 i0 (.int .i64 0) 1 8 Try.underlying79 hi hz0 hz1 hz2 rfl (by decide) _ _ _ rfl (hown.alloc _) ⟨w.heap.size, 0, none⟩ 1 1 [.int .i64 a] rfl rfl (cell_one_new _ _ _) (by simp [Value.oneCell']) (by unfold maxLen; omega) (by omega) (by simp; omega) ?_; intro v' w1 hown' hgrow _; obtain ⟨g, cap, rfl⟩ := owns_form hown' (by omega); have c1 := cell_of_one (box_grown HB.out hown hgrow); have f1 := free_of_one (box_grown HB.out hown hgrow))
    go_end0
    exact ⟨rfl, _, one_setCell (box_grown HB.out hown hgrow), ownsRow_setCell_other hown' (own_ne (box_grown HB.out hown hgrow) hown') _, (((Below.refl base w).alloc (by omega) _).grown hgrow (by simp; omega) (fun j hj => (hown.lt j hj).1)).setCell hbase _⟩
  · go_enter Try.func46, Try.ntmps46
    go_wp2_with (at_builtin; refine wpList_append_own _ rfl _ _ 79 rfl base 3 i0 (.int .i64 0) 1 8 Try.underlying79 hi hz0 hz1 hz2 rfl (by decide) _ _ _ rfl (hown.alloc _) ⟨w.heap.size, 0, none⟩ 1 1 [.int .i64 (a + f)] rfl rfl (cell_one_new _ _ _) (by simp [Value.oneCell']) (by unfold maxLen; omega) (by omega) (by simp; omega) ?_; intro v' w1 hown' hgrow _; obtain ⟨g, cap, rfl⟩ := owns_form hown' (by omega); have c1 := cell_of_one (box_grown HB.out hown hgrow); have f1 := free_of_one (box_grown HB.out hown hgrow))
    go_end0
    exact ⟨rfl, _, one_setCell (box_grown HB.out hown hgrow), ownsRow_setCell_other hown' (own_ne (box_grown HB.out hown hgrow) hown') _, (((Below.refl base w).alloc (by omega) _).grown hgrow (by simp; omega) (fun j hj => (hown.lt j hj).1)).setCell hbase _⟩
def wdF (mn n : Nat) (o : Nat → Int) (l : Nat → Bool) (j : Nat) : Int :=
  if j < mn then (if plB n o l j then 4 * o (4 * j) else 4 * ((mn : Int) + 4 * j) + 1) else (if l (j - mn) then o (j - mn) + 8 else o (j - mn))
theorem wd_plain {mn n : Nat} {o : Nat → Int} {l : Nat → Bool} {j : Nat} (h : j < mn) (hp : plB n o l j = true) : wdF mn n o l j = 4 * o (4 * j) := by simp [wdF, h, hp]
theorem wd_part {mn n : Nat} {o : Nat → Int} {l : Nat → Bool} {j : Nat} (h : j < mn) (hp : plB n o l j = false) : wdF mn n o l j = 4 * ((mn : Int) + 4 * j) + 1 := by simp [wdF, h, hp]
theorem wd_own (mn n : Nat) (o : Nat → Int) (l : Nat → Bool) (j : Nat) : wdF mn n o l (mn + j) = (if l j then o j + 8 else o j) := by unfold wdF; rw [if_neg (by omega), Nat.add_sub_cancel_left]
def cellsOf (g : Nat → Int) (k : Nat) : List Value := (List.range k).map fun j => Value.int .i64 (g j)
theorem cellsOf_succ (g : Nat → Int) (k : Nat) : cellsOf g (k + 1) = cellsOf g k ++ [.int .i64 (g k)] := by simp [cellsOf, List.range_succ]
theorem cellsOf_at (g : Nat → Int) {j k : Nat} (h : j < k) : (cellsOf g k)[j]? = some (.int .i64 (g j)) := by simp [cellsOf, h]
def BoxRel (mn n : Nat) (o : Nat → Int) (l : Nat → Bool) (w : World) (k : Nat) (wr : World) : Prop :=
  ∃ v, wr.heap[w.heap.size]? = some (.cells #[v] 79 (0, 0)) ∧ wr.ownsRow w.heap.size 3 1 v k (cellsOf (wdF mn n o l) k) ∧ Below w.heap.size w wr
def W1Rel (mn n : Nat) (o : Nat → Int) (l : Nat → Bool) (w : World) (v : Value) (wr : World) : Prop := ∃ k : Nat, k ≤ mn ∧ v = .int .i64 k ∧ BoxRel mn n o l w k wr
def W2Rel (mn n : Nat) (o : Nat → Int) (l : Nat → Bool) (w : World) (v : Value) (wr : World) : Prop := ∃ k : Nat, k ≤ n ∧ v = .int .i64 k ∧ BoxRel mn n o l w (mn + k) wr
theorem boxed {mn n : Nat} {o : Nat → Int} {l : Nat → Bool} {w wr w1 w2 : World} {k : Nat} {x : Int} (hB : Below w.heap.size w wr) (hx : x = wdF mn n o l k) (hb : Below w.heap.size wr w1)
    (h : ∃ v', w2.heap[w.heap.size]? = some (.cells #[v'] 79 (0, 0)) ∧ w2.ownsRow w.heap.size 3 1 v' (k + 1) (cellsOf (wdF mn n o l) k ++ [.int .i64 x]) ∧ Below w.heap.size w1 w2) : BoxRel mn n o l w (k + 1) w2 := by
  obtain ⟨v', a, b, c⟩ := h
  subst hx
  exact ⟨v', a, by rw [cellsOf_succ]; exact b, (hB.trans hb).trans c⟩
theorem box_next {w w' : World} {b : Nat} {o : Obj} (h : Below w.heap.size w w') (hb : w.heap[b]? = some o) : w'.heap[b]? = some o := (h.block b (lt_of_block hb)).trans hb
theorem ownsRow_next {w w' : World} {base n : Nat} {v : Value} {xs : List Value} (h : w.ownsRow base 3 1 v n xs) (hb : Below w.heap.size w w') : w'.ownsRow base 3 1 v n xs :=
  ⟨h.1, h.2.elim .inl fun ⟨g, cap, cur, hv, hg, hh, r⟩ => .inr ⟨g, cap, cur, hv, hg, (hb.block g (Array.getElem?_eq_some_iff.1 hh).1).trans hh, r⟩⟩
set_option maxHeartbeats 8000000 in
theorem words_any (mn P E n : Nat) (o : Nat → Int) (l : Nat → Bool) (h1 : 1 ≤ n) (hn : n ≤ 16) (hm : (n + 3) / 4 = mn) (ho : ∀ j, j < n → 0 ≤ o j ∧ o j ≤ 4) (w : World) (hT : Tb w P E n o l) :
    Calls Try.prog 34 #[.pointer (some ⟨P, 0, none⟩)] w fun r w' => ∃ v, r = .returned v ∧ w'.ownsRow w.heap.size 3 1 v (mn + n) (cellsOf (wdF mn n o l) (mn + n)) ∧ Below w.heap.size w w' := by
  have HT := hide hT
  obtain ⟨cp, hcp, c⟩ := hT.2.2.2.1
  have hEb := hT.2.1
  have hPb := hT.1
  clear hT
  replace ho := hide ho
  have hm1 : mn ≤ 4 := by omega
  have hm2 : ∀ k, k < mn → 4 * k < n := fun k hk => by omega
  replace hm2 := hide hm2
  have HM := hide hm
  clear hm
  go_enter Try.func34, Try.ntmps34
  go_wp2_with fail
  refine (groups_v n mn h1 hn HM.out _).mono ?_
  rintro r w1 ⟨rfl, rfl⟩
  go_wp2
  go_loopw [21] (fun v21 wr => W1Rel mn n o l w v21 wr) (fun v21 _ => mn - (intOf v21).toNat)
  case atStart => exact ⟨0, Nat.zero_le _, rfl, .slice none 0 0, heap_alloc_new _ _, World.ownsRow_nil _ _ _ _, (Below.refl _ _).alloc (Nat.le_refl _) _⟩
  case round =>
    obtain ⟨k, hk, rfl, v, hbox, hown, hB⟩ := hrel
    by_cases hlt : k < mn
    · have hk4 := hm2.out k hlt
      have ob := ho.out (4 * k) hk4
      obtain ⟨ob1, ob2⟩ := ob
      have hbl := lt_of_block hbox
      have TR := hide (HT.out.next hB)
      cases hp : plB n o l k
      · have HP := hide hp
        replace hp := hide hp
        go_wp2_with fail
        refine (plain_v P E n k o l hk4 hn _ HP.out _ TR.out).mono ?_
        rintro r w2 ⟨rfl, hb2⟩
        go_wp2_with fail
        refine (put_any (4 * ((mn : Int) + 4 * k)) 1 true (by omega) (by omega) (by omega) (by omega) _ rfl w.heap.size w.heap.size k v _ _ (box_next hb2 hbox) (ownsRow_next hown hb2) (by omega) (Nat.le_refl _)).mono ?_
        rintro r w3 ⟨rfl, h3⟩
        go_wp2
        go_roundw
        case rel => exact ⟨k + 1, by omega, int_eq (by omega), boxed hB (by rw [wd_part hlt HP.out]; rfl) (hb2.mono (Nat.le_of_lt hbl)) h3⟩
        case measure => simp [intOf]; omega
      · have HP := hide hp
        replace hp := hide hp
        go_wp2_with fail
        refine (plain_v P E n k o l hk4 hn _ HP.out _ TR.out).mono ?_
        rintro r w2 ⟨rfl, hb2⟩
        go_wp2_with fail
        refine (put_any (4 * o (4 * k)) 0 false (by omega) (by omega) (by omega) (by omega) _ rfl w.heap.size w.heap.size k v _ _ (box_next hb2 hbox) (ownsRow_next hown hb2) (by omega) (Nat.le_refl _)).mono ?_
        rintro r w3 ⟨rfl, h3⟩
        go_wp2
        go_roundw
        case rel => exact ⟨k + 1, by omega, int_eq (by omega), boxed hB (by rw [wd_plain hlt HP.out]; rfl) (hb2.mono (Nat.le_of_lt hbl)) h3⟩
        case measure => simp [intOf]; omega
    · obtain rfl : k = mn := by omega
      have c' := cell_next hB hPb c
      have BR := hide (show BoxRel k n o l w k _ from ⟨v, hbox, hown, hB⟩)
      clear hbox hown
      go_wp2
      go_loopw [48] (fun v48 wr => W2Rel k n o l w v48 wr) (fun v48 _ => n - (intOf v48).toNat)
      case atStart => exact ⟨0, Nat.zero_le _, rfl, BR.out⟩
      case round =>
        obtain ⟨j, hj, rfl, u, hbox, hown, hB⟩ := hrel
        by_cases hlj : j < n
        · have ob := ho.out j hlj
          obtain ⟨ob1, ob2⟩ := ob
          have hbl := lt_of_block hbox
          obtain ⟨a1, a2, a3, a4, a5⟩ := HT.out.next hB
          obtain ⟨d0, d1, -, -⟩ := a5 j hlj
          clear a5
          go_wp2_with fail
          refine (put_any (o j) 8 (l j) (by omega) (by omega) (by omega) (by omega) _ rfl w.heap.size w.heap.size (k + j) u _ _ (box_next ((Below.refl _ _).alloc (Nat.le_refl _) _) hbox) (hown.alloc _) (by omega) (Nat.le_refl _)).mono ?_
          rintro r w3 ⟨rfl, h3⟩
          go_wp2
          go_roundw
          case rel => exact ⟨j + 1, by omega, int_eq (by omega), boxed (k := k + j) hB (by rw [wd_own]) ((Below.refl _ _).alloc (Nat.le_of_lt hbl) _) h3⟩
          case measure => simp [intOf]; omega
        · obtain rfl : j = n := by omega
          have cb := cell_of_one hbox
          have fin := hide (show _ from (⟨hown, hB⟩ : _ ∧ _))
          clear hbox hown
          go_wp2
          go_ret
          exact ⟨u, rfl, fin.out⟩
theorem words_row {w : World} {base n mn : Nat} {v : Value} {f : Nat → Int} (h : w.ownsRow base 3 1 v n (cellsOf f n)) (hn : 0 < n) : ∃ g cap, v = .slice (some ⟨g, 0, none⟩) n cap ∧ base ≤ g ∧ g < w.heap.size ∧ ∀ j, j < n → w.cell? ⟨g, j, none⟩ = some (.int .i64 (f j)) := by
  obtain ⟨g, cap, rfl⟩ := owns_form h hn
  exact ⟨g, cap, rfl, (h.lt g rfl).1, (h.lt g rfl).2, fun j hj => (h.cellAt j (by omega)).trans (cellsOf_at f hj)⟩
theorem word_in (mn P E n j : Nat) (o : Nat → Int) (l : Nat → Bool) (x : Int) (h1 : 1 ≤ n) (hn : n ≤ 16) (hm : (n + 3) / 4 = mn) (ho : ∀ j, 0 ≤ o j ∧ o j ≤ 4) (hj : j < mn + n) (hx : wdF mn n o l j = x) (w : World) (hT : Tb w P E n o l) :
    Calls Try.prog 14 #[.pointer (some ⟨P, 0, none⟩), .int .i64 j] w fun r w' => r = .returned (.tuple #[.int .i64 x, .int .i64 0]) ∧ Below w.heap.size w w' := by
  have HT := hide hT
  have HO := hide ho
  have HM := hide hm
  have HX := hide hx
  have hjn : (j : Int) < (mn : Int) + n := by omega
  have hjn2 : (j : Int) < ((mn + n : Nat) : Int) := by omega
  clear hT ho hm hx
  go_enter Try.func14, Try.ntmps14
  go_wp2_with fail
  refine (words_any mn P E n o l h1 hn HM.out (fun j _ => HO.out j) _ HT.out).mono ?_
  rintro r w1 ⟨v, rfl, hown, hb⟩
  obtain ⟨g, cap, rfl, hg1, hg2, hcells⟩ := words_row (mn := mn) hown (by omega)
  have hcj := hcells j hj
  rw [HX.out] at hcj
  clear hcells hown
  go_wp2
  go_ret2
  exact ⟨by simp [go_sem], hb⟩
theorem word_own (mn P E n k : Nat) (o : Nat → Int) (l : Nat → Bool) (x : Int) (h1 : 1 ≤ n) (hn : n ≤ 16) (hm : (n + 3) / 4 = mn) (ho : ∀ j, 0 ≤ o j ∧ o j ≤ 4) (hk : k < n) (hx : wdF mn n o l (mn + k) = x) (w : World) (hT : Tb w P E n o l) :
    Calls Try.prog 14 #[.pointer (some ⟨P, 0, none⟩), .int .i64 ((mn : Int) + k)] w fun r w' => r = .returned (.tuple #[.int .i64 x, .int .i64 0]) ∧ Below w.heap.size w w' := by
  have := word_in mn P E n (mn + k) o l x h1 hn hm ho (by omega) hx w hT
  rw [Int.natCast_add] at this
  exact this
end Go.Proofs.Ytfikiophfphmbaa
