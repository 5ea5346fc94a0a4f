/- LaneOnce walked. -/
import Derived.Test.YtopfbmgmpihcnaaJ
import Derived.Test.YtopfbmgmpihcnaaO0
import Derived.Test.YtopfbmgmpihcnaaE2
import Derived.WalkKit
import Derived.WalkSpells
import Derived.ProofKit
import Derived.Outline
import Derived.Handy
import Derived.RowKit3
import Derived.BigQuiet
import Derived.Deep.QuietTactic
import Derived.Deep.RegionHeld3
import Derived.Deep.Draws
import Derived.Deep.RegionLaw
import Derived.RegionTactic
import Derived.BigRegion
import Derived.IntWalk
import Derived.LoopTactic
import Derived.OwnWalk
import Derived.Laws.AppendOwn
import Derived.Laws.OwnMore
import Derived.Laws.MakeOwn
import Derived.Laws.Pointers
import Derived.Maps.AppendAt
import Derived.Deep.AppendLies
import Derived.Below
import Derived.OwnWalkIn
import Derived.TacticsInMore
import Derived.LoopNIn
import Derived.LoopIn
import Derived.Shelf.RegionOpen
import Derived.Shelf.Abstract
namespace Go.Proofs.Ytopfbmgmpihcnaa
open Go.Shelf Go.RowKit
attribute [local go_sem] Oper.semAt_some
set_option linter.unusedVariables false
set_option maxRecDepth 100000

/-- A note of a number. -/
def dn (j : Nat) : Nt := ⟨4, 0, j, 0, 0, 0, 0, false, 0⟩
/-- What was put, what is there, and what was taken. -/
structure Inv (js : List Nat) (φ : Nat → Int) (nx : Nat) : Prop where
  up : js.Pairwise (· < ·)
  there : ∀ j ∈ js, j < nx ∧ φ j = 0
  gone : ∀ j, j < nx → j ∉ js → φ j = 1
  rest : ∀ j, nx ≤ j → φ j = 0
theorem Inv.put {js : List Nat} {φ : Nat → Int} {nx : Nat} (h : Inv js φ nx) : Inv (js ++ [nx]) φ (nx + 1) := by
  refine ⟨?_, ?_, ?_, fun j hj => h.rest j (by omega)⟩
  · rw [List.pairwise_append]
    exact ⟨h.up, by simp, fun a ha b hb => by simp at hb; subst hb; exact (h.there a ha).1⟩
  · intro j hj
    rw [List.mem_append] at hj
    rcases hj with hj | hj
    · have := h.there j hj; exact ⟨by omega, this.2⟩
    · simp at hj; subst hj; exact ⟨by omega, h.rest j (Nat.le_refl _)⟩
  · intro j hj hn
    simp at hn
    exact h.gone j (by omega) hn.1
def upd (φ : Nat → Int) (i : Nat) (x : Int) : Nat → Int := fun j => if j = i then x else φ j
theorem mem_erase {js : List Nat} (h : js.Pairwise (· < ·)) (a x : Nat) (hx : js[a]? = some x) (j : Nat) : j ∈ js.eraseIdx a ↔ j ∈ js ∧ j ≠ x := by
  obtain ⟨ha, rfl⟩ := List.getElem?_eq_some_iff.1 hx
  rw [List.mem_eraseIdx_iff_getElem]
  constructor
  · rintro ⟨i, hi, hia, rfl⟩
    refine ⟨List.getElem_mem _, fun e => ?_⟩
    rw [List.pairwise_iff_getElem] at h
    rcases Nat.lt_or_gt_of_ne hia with g | g
    · have := h i a hi ha g; omega
    · have := h a i ha hi g; omega
  · rintro ⟨hm, hne⟩
    obtain ⟨i, hi, rfl⟩ := List.mem_iff_getElem.1 hm
    exact ⟨i, hi, by rintro rfl; exact hne rfl, rfl⟩
theorem Inv.take {js : List Nat} {φ : Nat → Int} {nx : Nat} (h : Inv js φ nx) (a x : Nat) (hx : js[a]? = some x) : Inv (js.eraseIdx a) (upd φ x (φ x + 1)) nx := by
  have hm := mem_erase h.up a x hx
  have hxm : x ∈ js := List.mem_of_getElem? hx
  refine ⟨h.up.sublist (List.eraseIdx_sublist _ _), fun j hj => ?_, fun j hj hn => ?_, fun j hj => ?_⟩
  · have := (hm j).1 hj
    unfold upd
    rw [if_neg this.2]
    exact h.there j this.1
  · unfold upd
    by_cases e : j = x
    · rw [if_pos e, (h.there x hxm).2]; rfl
    · rw [if_neg e]
      exact h.gone j hj (fun hh => hn ((hm j).2 ⟨hh, e⟩))
  · unfold upd
    have := (h.there x hxm).1
    rw [if_neg (by omega)]
    exact h.rest j hj
/-- What the walk of LaneOnce holds on to. -/
structure On (w0 w : World) (P d : Nat) (v : Value) (js : List Nat) (B : Nat) (φ : Nat → Int) (nx : Nat) : Prop where
  la : La w P d v (js.map dn)
  r : w.cell? ⟨w0.heap.size, 0, none⟩ = some (.bool false)
  rf : w.frozen? ⟨w0.heap.size, 0, none⟩ = false
  s : ∀ j, j < 200 → w.cell? ⟨B, j, none⟩ = some (.int .i64 (φ j))
  sf : ∀ j, j < 200 → w.frozen? ⟨B, j, none⟩ = false
  x : w.cell? ⟨B + 1, 0, none⟩ = some (.int .i64 (nx : Int))
  xf : w.frozen? ⟨B + 1, 0, none⟩ = false
  lo : w0.heap.size < P
  pb : P < B
  hS : ∀ k, La.S P v k → k = P ∨ B + 1 < k
  lt : B + 1 < w.heap.size
  bel : Below w0.heap.size w0 w
section
variable {w0 w w' : World} {P d B nx : Nat} {v : Value} {js : List Nat} {φ : Nat → Int}
theorem On.fr {S : Nat → Prop} (h : On w0 w P d v js B φ nx) (f : Fr S w w') (hn : ∀ k, S k → B + 1 < k ∧ ¬ La.S P v k) : On w0 w' P d v js B φ nx := by
  have lo := h.lo
  have pb := h.pb
  have lt := h.lt
  have n : ∀ k, k ≤ B + 1 → ¬ S k := fun k hk e => by have := (hn k e).1; omega
  refine ⟨h.la.fr f (fun k hk e => (hn k e).2 hk), (f.cell (by omega) (n _ (by omega))).trans h.r, (f.frozen (by omega) (n _ (by omega))).trans h.rf, fun j hj => (f.cell (by omega) (n _ (by omega))).trans (h.s j hj), fun j hj => (f.frozen (by omega) (n _ (by omega))).trans (h.sf j hj), (f.cell (by omega) (n _ (by omega))).trans h.x, (f.frozen (by omega) (n _ (by omega))).trans h.xf, lo, pb, h.hS, Nat.lt_of_lt_of_le lt f.size, h.bel.trans (f.below h.bel.size (fun i hi => n i (by omega)))⟩
theorem On.next (h : On w0 w P d v js B φ nx) (b : Below w.heap.size w w') : On w0 w' P d v js B φ nx := h.fr (Fr.of_below (S := fun _ => False) b) (fun _ e => e.elim)
theorem On.lane {v' : Value} {js' : List Nat} (h : On w0 w P d v js B φ nx) (hl : La w' P d v' (js'.map dn)) (f : Fr (La.S P v) w w') (hn : ∀ k, La.S P v' k → k = P ∨ La.S P v k ∨ w.heap.size ≤ k) : On w0 w' P d v' js' B φ nx := by
  have lo := h.lo
  have pb := h.pb
  have lt := h.lt
  have n : ∀ k, k ≤ B + 1 → k ≠ P → ¬ La.S P v k := fun k hk hp e => by rcases h.hS k e with e | e <;> omega
  refine ⟨hl, (f.cell (by omega) (n _ (by omega) (by omega))).trans h.r, (f.frozen (by omega) (n _ (by omega) (by omega))).trans h.rf, fun j hj => (f.cell (by omega) (n _ (by omega) (by omega))).trans (h.s j hj), fun j hj => (f.frozen (by omega) (n _ (by omega) (by omega))).trans (h.sf j hj), (f.cell (by omega) (n _ (by omega) (by omega))).trans h.x, (f.frozen (by omega) (n _ (by omega) (by omega))).trans h.xf, lo, pb, fun k e => ?_, Nat.lt_of_lt_of_le lt f.size, h.bel.trans (f.below h.bel.size (fun i hi => n i (by omega) (by omega)))⟩
  rcases hn k e with e | e | e
  · exact .inl e
  · exact h.hS k e
  · exact .inr (by omega)
theorem On.setx (h : On w0 w P d v js B φ nx) (n : Nat) : On w0 (w.setCell ⟨B + 1, 0, none⟩ (.int .i64 (n : Int))) P d v js B φ n := by
  have lo := h.lo
  have pb := h.pb
  have lt := h.lt
  have f : Fr (fun k => k = B + 1) w (w.setCell ⟨B + 1, 0, none⟩ (.int .i64 (n : Int))) := (Fr.refl (fun k => k = B + 1) w).setCell (p := ⟨B + 1, 0, none⟩) (fun _ => rfl) _
  refine ⟨h.la.fr f (fun k hk e => ?_), (setCell_cell_other (by intro e; injection e; omega)).trans h.r, by simpa [World.frozen?_setCell] using h.rf, fun j hj => (setCell_cell_other (by simp)).trans (h.s j hj), fun j hj => by simpa [World.frozen?_setCell] using h.sf j hj, World.cell?_setCell_same' _ _ _ (by rw [h.x]; rfl), by simpa [World.frozen?_setCell] using h.xf, lo, pb, h.hS, by simpa [World.setCell] using lt, h.bel.setCell (by show w0.heap.size ≤ B + 1; omega) _⟩
  rcases h.hS k hk with e2 | e2 <;> omega
theorem On.sets (h : On w0 w P d v js B φ nx) (i : Nat) (z : Int) (hi : i < 200) : On w0 (w.setCell ⟨B, i, none⟩ (.int .i64 z)) P d v js B (upd φ i z) nx := by
  have lo := h.lo
  have pb := h.pb
  have lt := h.lt
  have f : Fr (fun k => k = B) w (w.setCell ⟨B, i, none⟩ (.int .i64 z)) := (Fr.refl (fun k => k = B) w).setCell (p := ⟨B, i, none⟩) (fun _ => rfl) _
  refine ⟨h.la.fr f (fun k hk e => ?_), (setCell_cell_other (by intro e; injection e; omega)).trans h.r, by simpa [World.frozen?_setCell] using h.rf, fun j hj => ?_, fun j hj => by simpa [World.frozen?_setCell] using h.sf j hj, (setCell_cell_other (by simp)).trans h.x, by simpa [World.frozen?_setCell] using h.xf, lo, pb, h.hS, by simpa [World.setCell] using lt, h.bel.setCell (by show w0.heap.size ≤ B; omega) _⟩
  · rcases h.hS k hk with e2 | e2 <;> omega
  · unfold upd
    by_cases e : j = i
    · subst e
      rw [if_pos rfl]
      exact World.cell?_setCell_same' _ _ _ (by rw [h.s j hj]; rfl)
    · rw [if_neg e]
      exact (setCell_cell_other (by intro e2; injection e2; omega)).trans (h.s j hj)
end
theorem zero_seen : ∃ cs : Array Value, (∀ W, (zeroValue 46).run Try.prog W = .ok (.agg cs) W) ∧ cs = Array.replicate 200 (.int .i64 0) :=
  ⟨_, fun W => by kernel_rfl, rfl⟩
theorem On.start {w w1 : World} {P d : Nat} {cs : Array Value} (hcs : cs = Array.replicate 200 (.int .i64 0)) (h : La w1 P d (.slice none 0 0) []) (hP : w.heap.size + 1 ≤ P) (b : Below (w.alloc (.cells #[.bool false] 4)).heap.size (w.alloc (.cells #[.bool false] 4)) w1) :
    On w ((w1.alloc (.cells cs 46)).alloc (.cells #[.int .i64 0] 3)) P d (.slice none 0 0) [] w1.heap.size (fun _ => 0) 0 := by
  have hPl := h.hP
  have b1 : Below w1.heap.size w1 (w1.alloc (.cells cs 46)) := (Below.refl _ _).alloc (Nat.le_refl _) _
  have b2 : Below (w1.alloc (.cells cs 46)).heap.size (w1.alloc (.cells cs 46)) ((w1.alloc (.cells cs 46)).alloc (.cells #[.int .i64 0] 3)) := (Below.refl _ _).alloc (Nat.le_refl _) _
  have b3 : Below w1.heap.size w1 ((w1.alloc (.cells cs 46)).alloc (.cells #[.int .i64 0] 3)) := b1.trans (b2.mono (by simp))
  have hb := b.size
  simp at hb
  have e1 : (w1.alloc (.cells cs 46)).heap.size = w1.heap.size + 1 := by simp
  have hr : w1.cell? ⟨w.heap.size, 0, none⟩ = some (.bool false) := cell_next b (by simp) (by simp [go_sem])
  have hrf : w1.frozen? ⟨w.heap.size, 0, none⟩ = false := (b.frozen (p := ⟨w.heap.size, 0, none⟩) (by simp)).trans (World.frozen?_alloc_new _ _ _ _)
  have bb := below_alloc b
  refine ⟨h.next b3, cell_next b3 (by omega) hr, (b3.frozen (p := ⟨w.heap.size, 0, none⟩) (by simp; omega)).trans hrf, fun j hj => ?_, fun j hj => ?_, ?_, ?_, by omega, hPl, fun k hk => ?_, by simp, bb.trans (b3.mono (by omega))⟩
  · refine cell_next b2 (by simp) ?_
    rw [World.cell?_alloc_new w1 cs 46 j, hcs]
    simp [hj]
  · exact (b2.frozen (p := ⟨w1.heap.size, j, none⟩) (by simp)).trans (World.frozen?_alloc_new _ _ _ _)
  · rw [← e1]; simp [go_sem]
  · rw [← e1]; exact World.frozen?_alloc_new _ _ _ _
  · rcases hk with hk | hk
    · exact .inl hk
    · cases hk
theorem map_erase (js : List Nat) (a : Nat) : (js.map dn).eraseIdx a = (js.eraseIdx a).map dn := by
  induction js generalizing a with
  | nil => simp
  | cons x xs ih => cases a <;> simp [ih]
theorem put_on {w0 W : World} {P d B nx : Nat} {v : Value} {js : List Nat} {φ : Nat → Int} (h : On w0 W P d v js B φ nx) (hfit : js.length + 1 ≤ d) (g : Nat) (hg : W.heap.size = g) :
    Calls Try.prog 16 #[.pointer (some ⟨P, 0, none⟩), .slice (some ⟨g, 0, none⟩) 1 1] (W.alloc (.cells #[.int .i64 4, .int .i64 0, .int .i64 (nx : Int), .int .i64 0, .int .i64 0, .int .i64 0, .int .i64 0, .bool false, .int .i64 0] 51)) fun r w' => r = .returned (.int .i64 0) ∧ ∃ v', On w0 w' P d v' (js ++ [nx]) B φ nx := by
  subst hg
  have h1 := h.next ((Below.refl _ _).alloc (Nat.le_refl _) (.cells (dn nx).arr 51))
  refine (put_ok (ms := [dn nx]) (by simpa using hfit) _ h1.la (src_new W [dn nx] _ (by rfl) (by unfold maxLen; simp))).mono ?_
  rintro r w' ⟨rfl, v', k1, k2, k3⟩
  exact ⟨rfl, v', h1.lane (by rw [List.map_append]; exact k1) k2 (fun k e => .inr (k3 k e))⟩
theorem full_on {w0 W : World} {P d B nx : Nat} {v : Value} {js : List Nat} {φ : Nat → Int} (h : On w0 W P d v js B φ nx) (hfit : ¬ js.length + 1 ≤ d) (g : Nat) (hg : W.heap.size = g) :
    Calls Try.prog 16 #[.pointer (some ⟨P, 0, none⟩), .slice (some ⟨g, 0, none⟩) 1 1] (W.alloc (.cells #[.int .i64 4, .int .i64 0, .int .i64 (nx : Int), .int .i64 0, .int .i64 0, .int .i64 0, .int .i64 0, .bool false, .int .i64 0] 51)) fun r w' => r = .returned (.int .i64 11) ∧ On w0 w' P d v js B φ nx := by
  subst hg
  have h1 := h.next ((Below.refl _ _).alloc (Nat.le_refl _) (.cells (dn nx).arr 51))
  refine (put_full (ms := [dn nx]) (by simpa using hfit) (by simp) _ h1.la (src_new W [dn nx] _ (by rfl) (by unfold maxLen; simp))).mono ?_
  rintro r w' ⟨rfl, k⟩
  exact ⟨rfl, h1.next k⟩
theorem take_on {w0 W : World} {P d B nx : Nat} {v : Value} {js : List Nat} {φ : Nat → Int} (h : On w0 W P d v js B φ nx) (z : Int) (a x : Nat) (ha : z % (js.length : Int) = (a : Int)) (hx : js[a]? = some x) :
    Calls Try.prog 18 #[.pointer (some ⟨P, 0, none⟩), .int .i64 z] W fun r w' => r = .returned (.tuple #[.agg #[.int .i64 4, .int .i64 0, .int .i64 (x : Int), .int .i64 0, .int .i64 0, .int .i64 0, .int .i64 0, .bool false, .int .i64 0], .int .i64 0]) ∧ ∃ v', On w0 w' P d v' (js.eraseIdx a) B φ nx := by
  refine (take_some z a (dn x) (by rw [List.length_map]; exact ha) (by rw [List.getElem?_map, hx]; rfl) W h.la).mono ?_
  rintro r w' ⟨rfl, v', k1, k2, k3⟩
  rw [map_erase] at k1
  exact ⟨rfl, v', h.lane k1 k2 (fun k e => (k3 k e).elim .inl (fun h => .inr (.inr h)))⟩
theorem none_on {w0 W : World} {P d B nx : Nat} {v : Value} {φ : Nat → Int} (h : On w0 W P d v [] B φ nx) (z : Int) :
    Calls Try.prog 18 #[.pointer (some ⟨P, 0, none⟩), .int .i64 z] W fun r w' => r = .returned (.tuple #[.agg #[.int .i64 0, .int .i64 0, .int .i64 0, .int .i64 0, .int .i64 0, .int .i64 0, .int .i64 0, .bool false, .int .i64 0], .int .i64 12]) ∧ On w0 w' P d v [] B φ nx := by
  refine (take_none z W h.la).mono ?_
  rintro r w' ⟨rfl, k⟩
  exact ⟨rfl, h.next k⟩
theorem room_on {w0 W : World} {P d B nx : Nat} {v : Value} {js : List Nat} {φ : Nat → Int} (h : On w0 W P d v js B φ nx) :
    Calls Try.prog 17 #[.pointer (some ⟨P, 0, none⟩)] W fun r w' => r = .returned (.int .i64 ((d : Int) - js.length)) ∧ On w0 w' P d v js B φ nx := by
  refine (room_any W h.la).mono ?_
  rintro r w' ⟨rfl, k⟩
  exact ⟨by rw [List.length_map], h.next k⟩
theorem len_on {w0 W : World} {P d B nx : Nat} {v : Value} {js : List Nat} {φ : Nat → Int} (h : On w0 W P d v js B φ nx) :
    Calls Try.prog 19 #[.pointer (some ⟨P, 0, none⟩)] W fun r w' => r = .returned (.int .i64 (js.length : Int)) ∧ On w0 w' P d v js B φ nx := by
  refine (len_any W h.la).mono ?_
  rintro r w' ⟨rfl, k⟩
  exact ⟨by rw [List.length_map], h.next k⟩
/-- What the walk of the last range holds on to. -/
structure Rg (w0 w : World) (P d : Nat) (v : Value) (js : List Nat) (B LB : Nat) (φ : Nat → Int) (nx : Nat) (last : Int) : Prop where
  on : On w0 w P d v js B φ nx
  l : w.cell? ⟨LB, 0, none⟩ = some (.int .i64 last)
  lf : w.frozen? ⟨LB, 0, none⟩ = false
  bl : B + 1 < LB
  lt : LB < w.heap.size
  nS : ∀ k, La.S P v k → k < LB
section
variable {w0 w w' : World} {P d B LB nx : Nat} {v : Value} {js : List Nat} {φ : Nat → Int} {last : Int}
theorem Rg.fr {S : Nat → Prop} (h : Rg w0 w P d v js B LB φ nx last) (f : Fr S w w') (hn : ∀ k, S k → LB < k) : Rg w0 w' P d v js B LB φ nx last := by
  have bl := h.bl
  refine ⟨h.on.fr f (fun k hk => ⟨by have := hn k hk; omega, fun e => by have := h.nS k e; have := hn k hk; omega⟩), (f.cell h.lt (fun e => by have := hn _ e; omega)).trans h.l, (f.frozen h.lt (fun e => by have := hn _ e; omega)).trans h.lf, bl, Nat.lt_of_lt_of_le h.lt f.size, h.nS⟩
theorem Rg.sets (h : Rg w0 w P d v js B LB φ nx last) (i : Nat) (z : Int) (hi : i < 200) : Rg w0 (w.setCell ⟨B, i, none⟩ (.int .i64 z)) P d v js B LB (upd φ i z) nx last := by
  have bl := h.bl
  exact ⟨h.on.sets i z hi, (setCell_cell_other (by intro e; injection e; omega)).trans h.l, by simpa [World.frozen?_setCell] using h.lf, bl, by simpa [World.setCell] using h.lt, h.nS⟩
theorem Rg.setl (h : Rg w0 w P d v js B LB φ nx last) (z : Int) : Rg w0 (w.setCell ⟨LB, 0, none⟩ (.int .i64 z)) P d v js B LB φ nx z := by
  have bl := h.bl
  have f : Fr (fun k => k = LB) w (w.setCell ⟨LB, 0, none⟩ (.int .i64 z)) := (Fr.refl (fun k => k = LB) w).setCell (p := ⟨LB, 0, none⟩) (fun _ => rfl) _
  exact ⟨h.on.fr f (fun k hk => ⟨by omega, fun e => by have := h.nS k e; omega⟩), World.cell?_setCell_same' _ _ _ (by rw [h.l]; rfl), by simpa [World.frozen?_setCell] using h.lf, bl, by simpa [World.setCell] using h.lt, h.nS⟩
end
/-- Where the range stands, if all was gone through in order. -/
structure St (js : List Nat) (p : Nat) (last : Int) (φ : Nat → Int) (nx : Nat) : Prop where
  up : ∀ j ∈ js.drop p, last < (j : Int) ∧ φ j = 0
  one : ∀ j, j < nx → j ∉ js.drop p → φ j = 1
theorem St.start {js : List Nat} {φ : Nat → Int} {nx : Nat} (h : Inv js φ nx) : St js 0 (-1) φ nx := ⟨fun j hj => ⟨by omega, (h.there j (by simpa using hj)).2⟩, fun j hj hn => h.gone j hj (by simpa using hn)⟩
theorem St.step {js : List Nat} {p x : Nat} {last : Int} {φ : Nat → Int} {nx : Nat} (hup : js.Pairwise (· < ·)) (h : St js p last φ nx) (hx : js[p]? = some x) : St js (p + 1) x (upd φ x (φ x + 1)) nx := by
  obtain ⟨hp, rfl⟩ := List.getElem?_eq_some_iff.1 hx
  have hd : js.drop p = js[p] :: js.drop (p + 1) := List.drop_eq_getElem_cons hp
  have hpw : (js[p] :: js.drop (p + 1)).Pairwise (· < ·) := by rw [← hd]; exact hup.sublist (List.drop_sublist _ _)
  have hlt : ∀ j ∈ js.drop (p + 1), js[p] < j := fun j hj => List.rel_of_pairwise_cons hpw hj
  refine ⟨fun j hj => ?_, fun j hj hn => ?_⟩
  · have h1 := hlt j hj
    have h2 := h.up j (by rw [hd]; exact List.mem_cons_of_mem _ hj)
    refine ⟨by omega, ?_⟩
    unfold upd
    rw [if_neg (by omega)]; exact h2.2
  · unfold upd
    by_cases e : j = js[p]
    · rw [if_pos e, (h.up js[p] (by rw [hd]; exact List.mem_cons_self)).2]; rfl
    · rw [if_neg e]
      exact h.one j hj (fun hh => by
        rw [hd] at hh
        rcases List.mem_cons.1 hh with hh | hh
        · exact e hh
        · exact hn hh)
theorem take_last {α : Type} {ns pre : List α} {x : α} {k : Nat} (h : pre ++ [x] = ns.take k) : pre = ns.take pre.length ∧ ns[pre.length]? = some x := by
  have hk : pre.length + 1 ≤ k := by
    have : (pre ++ [x]).length ≤ k := by rw [h]; exact List.length_take_le _ _
    simpa using this
  constructor
  · have := congrArg (List.take pre.length) h
    rw [List.take_left, List.take_take] at this
    rw [Nat.min_eq_left (by omega)] at this
    exact this
  · have : (pre ++ [x])[pre.length]? = some x := by simp
    rw [h, List.getElem?_take, if_pos (by omega)] at this
    exact this
def RI (w0 : World) (P d : Nat) (v : Value) (js : List Nat) (B LB nx : Nat) (pre : List Nt) (W : World) : Prop :=
  ∃ (last : Int) (φ : Nat → Int), -1 ≤ last ∧ (∀ j, 0 ≤ φ j ∧ φ j ≤ 1 + pre.length) ∧ Rg w0 W P d v js B LB φ nx last ∧ (pre = (js.map dn).take pre.length → St js pre.length last φ nx)
theorem RI.own {w0 : World} {P d B LB nx : Nat} {v : Value} {js : List Nat} (b : Nat) (hb : LB < b) : OwnFrom b (RI w0 P d v js B LB nx) := by
  rintro s A B' row ⟨last, φ, h1, h2, h3, h4⟩ hg hr
  exact ⟨last, φ, h1, h2, h3.fr (Fr.of_grown' (S := fun k => row = some k) hg (fun E hE _ => hE)) (fun k e => Nat.lt_of_lt_of_le hb (hr k e).1), h4⟩
theorem RI.start {w w2 : World} {P d B nx k : Nat} {v : Value} {js : List Nat} {φ : Nat → Int} (h : On w w2 P d v js B φ nx) (hI : Inv js φ nx) : RI w P d v js B w2.heap.size nx [] (w2.alloc (.cells #[.int .i64 (-1)] 3)) := by
  refine ⟨-1, φ, by omega, fun j => ?_, ⟨h.next ((Below.refl _ _).alloc (Nat.le_refl _) _), by simp [go_sem], World.frozen?_alloc_new _ _ _ _, h.lt, by simp, fun k hk => h.la.lt k hk⟩, fun _ => St.start hI⟩
  by_cases h1 : j < nx
  · by_cases h2 : j ∈ js
    · rw [(hI.there j h2).2]; simp
    · rw [hI.gone j h1 h2]; simp
  · rw [hI.rest j (by omega)]; simp
theorem next_ok {js : List Nat} {pre : List Nt} {x : Nt} {φ φ' : Nat → Int} {nx i : Nat} {last : Int} (hI : Inv js φ nx) (hst : pre = (js.map dn).take pre.length → St js pre.length last φ' nx) (h : pre ++ [x] = (js.map dn).take i) :
    ∃ j : Nat, js[pre.length]? = some j ∧ x = dn j ∧ last < j ∧ j < nx ∧ St js pre.length last φ' nx := by
  obtain ⟨h1, h2⟩ := take_last h
  have hs := hst h1
  rw [List.getElem?_map] at h2
  obtain ⟨j, hj, rfl⟩ := Option.map_eq_some_iff.1 h2
  obtain ⟨hp, rfl⟩ := List.getElem?_eq_some_iff.1 hj
  have hm : js[pre.length] ∈ js.drop pre.length := by rw [List.drop_eq_getElem_cons hp]; exact List.mem_cons_self
  exact ⟨_, hj, rfl, (hs.up _ hm).1, (hI.there _ (List.getElem_mem _)).1, hs⟩
theorem RI.step {w0 W W' : World} {P d B LB nx m : Nat} {v : Value} {js : List Nat} {pre : List Nt} {x : Nt} {φ φ' : Nat → Int} {last : Int} (hI : Inv js φ nx) (hst : pre = (js.map dn).take pre.length → St js pre.length last φ' nx) (hφ : ∀ j, 0 ≤ φ' j ∧ φ' j ≤ 1 + pre.length) (hm : x.l = (m : Int)) (hR : Rg w0 W' P d v js B LB (upd φ' m (φ' m + 1)) nx m) : RI w0 P d v js B LB nx (pre ++ [x]) W' := by
  refine ⟨m, upd φ' m (φ' m + 1), by omega, fun j => ?_, hR, fun h => ?_⟩
  · have h1 := hφ j
    have h2 := hφ m
    simp only [List.length_append, List.length_singleton]
    unfold upd
    split <;> omega
  · obtain ⟨j, h1, h2, h3, h4, h5⟩ := next_ok hI hst h
    have e : m = j := by rw [h2] at hm; simp [dn] at hm; omega
    subst e
    rw [List.length_append, List.length_singleton]
    exact h5.step hI.up h1
def OnceRel (w0 : World) (P d B L : Nat) (v9 : Value) (wr : World) : Prop :=
  ∃ (k nx : Nat) (js : List Nat) (φ : Nat → Int) (v : Value), k ≤ L ∧ v9 = .int .i64 k ∧ nx ≤ k ∧ Inv js φ nx ∧ On w0 wr P d v js B φ nx
set_option maxHeartbeats 4000000 in
theorem once_in (d : Nat) (h1 : 1 ≤ d) (h2 : d ≤ 16) (av : Option Addr) (L c : Nat) (hL : L ≤ 200) (A : Nat → Int) (w : World) (hl : NumsIn w av L A) :
    Calls Try.prog 5 #[.int .i64 d, .slice av L c] w fun r w' => r = .returned (.bool true) ∧ Below w.heap.size w w' := by
  have HL := hide hl
  clear hl
  obtain ⟨cs, hz, hcs⟩ := zero_seen
  have HC := hide hcs
  clear hcs
  refine (callsIn_wide (n := 3)).1 ?_
  refine callsIn_of_wp_marks Try.func5 rfl trivial ?_ rfl
  simp only [Try.ntmps5, List.size_toArray, List.length_cons, List.length_nil, Nat.reduceAdd, Nat.reduceSub, Array.replicate_succ, Array.replicate_zero, List.push_toArray, List.append_toArray, List.nil_append, List.cons_append]
  refine wpIn_wide.2 ?_
  go_wp2_with fail
  refine (new_yes d h1 h2 _).mono ?_
  rintro r w1 ⟨P, rfl, hl1, hP, hb1⟩
  have hP2 := hl1.hP
  simp at hP
  have O0 := hide (On.start HC.out hl1 hP hb1)
  clear hl1 hb1 HC
  go_wp2_with fail
  clear hz
  go_loopw [9] (fun v9 wr => OnceRel w P d w1.heap.size L v9 wr) (fun v9 _ => L - (intOf v9).toNat)
  case atStart => exact ⟨0, 0, [], fun _ => 0, .slice none 0 0, Nat.zero_le _, rfl, Nat.le_refl _, ⟨List.Pairwise.nil, by simp, by omega, fun _ _ => rfl⟩, O0.out⟩
  case round =>
    obtain ⟨k, nx, js, φ, v, hk, rfl, hnk, hI, hO⟩ := hrel
    have O := hide hO
    have I := hide hI
    by_cases hlt : k < L
    · obtain ⟨b, off, rfl, hbl, hli⟩ : ∃ b off, av = some ⟨b, off, none⟩ ∧ b < w.heap.size ∧ ∀ i, i < L → w.cell? ⟨b, off + i, none⟩ = some (.int .i64 (A i)) := HL.out.resolve_left (by omega)
      have ck := (hO.bel.cell (p := ⟨b, off + k, none⟩) hbl).trans (hli k hlt)
      clear hli
      have cx := hO.x
      have fx := hO.xf
      have lo := hO.lo
      have pb := hO.pb
      have lt := hO.lt
      clear hO hI
      by_cases hneg : A k < 0
      · by_cases hfit : js.length + 1 ≤ d
        · go_wp2_with fail
          refine (put_on O.out hfit _ (by simp)).mono ?_
          rintro r w2 ⟨rfl, v2, hO2⟩
          have O2 := hide (hO2.setx (nx + 1))
          have cx2 := hO2.x
          have fx2 := hO2.xf
          have hnx : (nx : Int) ≤ 200 := by omega
          clear hO2
          go_wp2
          go_roundw
          case rel => exact ⟨k + 1, nx + 1, js ++ [nx], φ, v2, by omega, int_eq (by omega), by omega, I.out.put, O2.out⟩
          case measure => simp [intOf]; omega
        · go_wp2_with fail
          refine (full_on O.out hfit _ (by simp)).mono ?_
          rintro r w2 ⟨rfl, hO2⟩
          have hjd : js.length = d := by have := hO2.la.le; rw [List.length_map] at this; omega
          have O2 := hide hO2
          clear hO2
          go_wp2_with fail
          refine (room_on O2.out).mono ?_
          rintro r w3 ⟨hr, hO3⟩
          obtain rfl : r = .returned (.int .i64 0) := by rw [hr]; exact ret_int (by omega)
          have O3 := hide hO3
          clear hO3 hr hjd
          go_wp2
          go_roundw
          case rel => exact ⟨k + 1, nx, js, φ, v, by omega, int_eq (by omega), by omega, I.out, O3.out⟩
          case measure => simp [intOf]; omega
      · by_cases h0 : js = []
        · subst h0
          go_wp2_with fail
          refine (none_on O.out _).mono ?_
          rintro r w2 ⟨rfl, hO2⟩
          have O2 := hide (hO2.next ((Below.refl _ _).alloc (Nat.le_refl _) (.cells nt0.arr 51)))
          clear hO2
          go_wp2_with fail
          refine (len_on O2.out).mono ?_
          rintro r w3 ⟨hr, hO3⟩
          obtain rfl : r = .returned (.int .i64 0) := hr
          have O3 := hide hO3
          clear hO3
          go_wp2
          go_roundw
          case rel => exact ⟨k + 1, nx, [], φ, v, by omega, int_eq (by omega), by omega, I.out, O3.out⟩
          case measure => simp [intOf]; omega
        · have hpos : (0 : Int) < js.length := by
            cases js
            · exact absurd rfl h0
            · simp
          obtain ⟨a, ha⟩ : ∃ a : Nat, A k % (js.length : Int) = a := ⟨(A k % (js.length : Int)).toNat, by have := Int.emod_nonneg (A k) (show (js.length : Int) ≠ 0 by omega); omega⟩
          have hal : a < js.length := by have := Int.emod_lt_of_pos (A k) hpos; omega
          obtain ⟨x, hx⟩ : ∃ x, js[a]? = some x := ⟨js[a], List.getElem?_eq_getElem hal⟩
          have hxm := I.out.there x (List.mem_of_getElem? hx)
          have hxn := hxm.1
          have HA := hide ha
          have HX := hide hx
          have HZ := hide hxm.2
          have e3 : ∀ W, (binOp BinOp.neq 51 (.agg #[.int .i64 4, .int .i64 0, .int .i64 (x : Int), .int .i64 0, .int .i64 0, .int .i64 0, .int .i64 0, .bool false, .int .i64 0]) (.agg #[.int .i64 4, .int .i64 0, .int .i64 (x : Int), .int .i64 0, .int .i64 0, .int .i64 0, .int .i64 0, .bool false, .int .i64 0])).run Try.prog W = .ok (.bool false) W := fun W => (note_neq (dn x) (dn x) W).trans (by rw [Nt.same_refl]; rfl)
          clear ha hx hxm h0
          go_wp2_with fail
          refine (take_on O.out _ a x HA.out HX.out).mono ?_
          rintro r w2 ⟨rfl, v2, hO2⟩
          have cx2 := hO2.x
          have fx2 := hO2.xf
          have cs2 := hO2.s x (by omega)
          have fs2 := hO2.sf x (by omega)
          rw [HZ.out] at cs2
          have lt2 := hO2.lt
          have x200 : x < 200 := by omega
          have lt3 : w1.heap.size < w2.heap.size := by omega
          have x200i : (x : Int) < 200 := by omega
          have xnn : ¬ ((x : Int) < 0) := by omega
          have xnx : ¬ ((nx : Int) ≤ x) := by omega
          have O4 := hide ((hO2.sets x 1 x200).next ((Below.refl _ _).alloc (Nat.le_refl _) (.cells (dn x).arr 51)))
          clear hO2
          go_wp2_with fail
          go_roundw
          case rel => exact ⟨k + 1, nx, js.eraseIdx a, upd φ x 1, v2, by omega, int_eq (by omega), by omega, by have := I.out.take a x HX.out; rw [HZ.out] at this; exact this, O4.out⟩
          case measure => simp [intOf]; omega
    · obtain rfl : k = L := by omega
      clear hO hI
      go_wp2_with fail
      refine (all_any _ O.out.la).mono ?_
      rintro r w2 ⟨vA, rfl, hA, hb2, hvA⟩
      have E1 : ∀ W, (binOp BinOp.eql 40 (.func (.func 22) #[] #[.pointer (some ⟨wr.heap.size, 0, none⟩)]) .nilFunc).run Try.prog W = .ok (.bool false) W := fun W => by kernel_rfl
      have O2 := hide (O.out.next hb2)
      have A2 := hide hA
      have V2 := hide hvA
      have hb2s := hb2.size
      clear hA hvA hb2
      go_wp2_with fail
      have lo2 := O2.out.lt
      have loW := O.out.lt
      have hlen : (js.map dn).length ≤ 100 := by have := O2.out.la.le; have := O2.out.la.d16; omega
      have HQ := hide (all_stopsF (fun i => i = w1.heap.size ∨ w2.heap.size ≤ i) (js.map dn) hlen (3 - 1) (by omega) wr.heap.size vA (w2.alloc (.cells #[.int .i64 (-1)] 3)) (A2.out.next ((Below.refl _ _).alloc (Nat.le_refl _) _)) (fun i hi e => by have := V2.out i hi; have := A2.out.lt i hi; omega))
      refine (wpIn_wide (n := 3)).1 ?_
      refine rf_note 15 rfl HQ.out (fun i hi => .inr (by simp at hi; omega)) (Below.refl _ _) (RI w P d v js w1.heap.size w2.heap.size nx) (fun pre W => ∀ i, pre ≠ (js.map dn).take i) (RI.own _ (by simp)) (fun s A B row hs hg hr => hs) (RI.start (k := 0) O2.out I.out) ?assign ?body ?done ?stop
      case assign =>
        rintro l pre x W K hi hK
        obtain ⟨last, φ', -, -, hR, -⟩ := id hi
        have hWl := hR.lt
        gi_wp2
        refine hK W.heap.size _ (KeepsFrom.of_grownBy (World.grownBy_alloc _ _ none) (fun _ e => by cases e)) ((Fr.refl _ W).alloc _) ?_ (by simp; omega) (by simp) (ntw_new W x 51).c
        exact RI.own (w2.alloc (.cells #[.int .i64 (-1)] 3)).heap.size (by simp) pre W _ none hi (World.grownBy_alloc _ _ _) (fun r e => by cases e)
      case body =>
        rintro l pre x T W hl ⟨rr, hrr⟩ ⟨last, φ', hlo, hφ, hR, hst⟩ hT1 hT2 hTn hlt
        rw [List.length_map] at hlt
        have HR := hide hR
        have HS := hide hst
        have HP := hide hφ
        have hp16 : pre.length ≤ 16 := by have := hR.on.la.le; have := hR.on.la.d16; rw [List.length_map] at *; omega
        obtain ⟨t0, t1, t2, t3, t4, t5, t6, t7, t8⟩ := hTn
        have c1 := hR.on.r
        have c1f := hR.on.rf
        have c2 := hR.on.x
        have c2f := hR.on.xf
        have c3 := hR.l
        have c3f := hR.lf
        have b1 := hR.on.lt
        have b2 := hR.lt
        have b3 := hR.bl
        have b4 := hR.on.lo
        have b5 := hR.on.pb
        simp at hT1
        clear hR hst hrr t0 t1 t3 t4 t5 t6 t7 t8
        by_cases x1 : x.l ≤ last
        · gi_wp2
          exact ⟨kf_set _ W W rfl ⟨w.heap.size, 0, none⟩ (.bool false), fun i e => by
            obtain ⟨j, k1, k2, k3, k4, -⟩ := next_ok I.out HS.out e
            rw [k2] at x1
            simp [dn] at x1
            omega⟩
        · by_cases x2 : (nx : Int) ≤ x.l
          · gi_wp2
            exact ⟨kf_set _ W W rfl ⟨w.heap.size, 0, none⟩ (.bool false), fun i e => by
              obtain ⟨j, k1, k2, k3, k4, -⟩ := next_ok I.out HS.out e
              rw [k2] at x2
              simp [dn] at x2
              omega⟩
          · obtain ⟨m, hm⟩ : ∃ m : Nat, x.l = m := ⟨x.l.toNat, by omega⟩
            have HM := hide hm
            rw [hm] at t2 x1 x2
            have m2 : m < 200 := by omega
            have m2i : (m : Int) < 200 := by omega
            have m3 : 0 ≤ (m : Int) := by omega
            have cm := HR.out.on.s m m2
            have cmf := HR.out.on.sf m m2
            obtain ⟨p1, p2⟩ := HP.out m
            have p3 : φ' m ≤ 17 := by omega
            clear hm hφ
            have q1 : w1.heap.size ≠ w2.heap.size := by omega
            gi_wp2
            exact ⟨(kf_set (w2.heap.size + 1) W W rfl ⟨w2.heap.size, 0, none⟩ (.int .i64 (m : Int))).trans (kf_set _ _ _ rfl ⟨w1.heap.size, m, none⟩ _), ((Fr.refl _ W).setCell (p := ⟨w2.heap.size, 0, none⟩) (fun _ => .inr (Nat.le_refl _)) _).setCell (p := ⟨w1.heap.size, m, none⟩) (fun _ => .inl rfl) _,
              RI.step (W := W) I.out HS.out HP.out HM.out ((HR.out.setl (m : Int)).sets m (φ' m + 1) m2)⟩
      case done =>
        rintro D W hD ⟨last, φ', -, -, hR, hst⟩ hK
        have hS := hst (by rw [List.length_map, List.take_of_length_le (by simp)])
        have ho : ∀ j, j < nx → φ' j = 1 := fun j hj => hS.one j hj (by simp)
        have HO := hide ho
        have R := hide hR.on
        have c2 := hR.on.x
        have HK := hide hK
        clear hS ho hst hR hK
        have r2 := hide (show w2.heap.size + 1 ≤ D by simpa using hD)
        clear hD
        go_wp2_with fail
        go_loopw [16] (fun v16 wz => ∃ i : Nat, i ≤ nx ∧ v16 = .int .i64 i ∧ wz = W) (fun v16 _ => nx - (intOf v16).toNat)
        case atStart => exact ⟨0, Nat.zero_le _, rfl, rfl⟩
        case round =>
          obtain ⟨i, hi, rfl, rfl⟩ := hrel
          by_cases hin : i < nx
          · have i200 : i < 200 := by omega
            have cs := R.out.s i i200
            rw [HO.out i hin] at cs
            have i2 : (i : Int) < 200 := by omega
            go_wp2
            go_roundw
            case rel => exact ⟨i + 1, by omega, int_eq (by omega), trivial⟩
            case measure => simp [intOf]; omega
          · go_wp2_with fail
            have hjd : js.length ≤ d := by have := R.out.la.le; rw [List.length_map] at this; exact this
            refine (len_any _ R.out.la).mono ?_
            rintro r w3 ⟨hr, hb⟩
            obtain rfl : r = .returned (.int .i64 (js.length : Int)) := by rw [hr, List.length_map]
            have R3 := hide (R.out.next hb)
            have K3 := hide ((hb.block D (Array.getElem?_eq_some_iff.1 HK.out).1).trans HK.out)
            clear hb hr
            go_wp2_with fail
            refine (room_any _ R3.out.la).mono ?_
            rintro r w4 ⟨hr, hb⟩
            obtain rfl : r = .returned (.int .i64 ((d : Int) - js.length)) := by rw [hr, List.length_map]
            have R4 := hide (R3.out.next hb)
            have K4 := hide ((hb.block D (Array.getElem?_eq_some_iff.1 K3.out).1).trans K3.out)
            clear hb hr
            go_wp2_with fail
            refine (awake_yes _).mono ?_
            rintro r w5 ⟨rfl, hb⟩
            have R5 := R4.out.next hb
            have K5 := (hb.block D (Array.getElem?_eq_some_iff.1 K4.out).1).trans K4.out
            have cr := R5.r
            have crf := R5.rf
            have bel := R5.bel
            have lo := R5.lt
            have pb := R5.pb
            have lw := R5.lo
            clear hb R5
            go_wp2
            have hK2 : (w5.setCell ⟨w.heap.size, 0, none⟩ (.bool true)).heap[D]? = some (.deferred (some [])) := (Below.heap_setCell w5 ⟨w.heap.size, 0, none⟩ _ D (by show ¬ _ = _; have := r2.out; simp; omega)).trans K5
            refine ⟨by simp, .inl ⟨_, _, rfl, run_takeDeferred hK2, ?_⟩⟩
            have hD3 : w.heap.size ≠ D := by have := r2.out; omega
            have hb2 : Below w.heap.size w ((w5.setCell ⟨w.heap.size, 0, none⟩ (.bool true)).putObj D (.deferred none)) := (bel.setCell (by show w.heap.size ≤ w.heap.size; omega) _).trans (below_putObj _ D _ (by have := r2.out; omega))
            have hc : ((w5.setCell ⟨w.heap.size, 0, none⟩ (.bool true)).putObj D (.deferred none)).cell? ⟨w.heap.size, 0, none⟩ = some (.bool true) := (World.cell?_of_block (a := ⟨w.heap.size, 0, none⟩) (World.putObj_heap_other hD3)).trans (World.cell?_setCell_same' _ _ _ (by rw [cr]; rfl))
            exact ⟨.bool true, by simp [results, Try.f5, go_sem, hc], rfl, hb2⟩
      case stop =>
        rintro D c pre W _ ⟨i, h1, h2, h3⟩ hs _
        exact absurd h3 (hs i)
theorem once_out (z : Int) (av : Option Addr) (L c : Nat) (h : ¬ (1 ≤ z ∧ z ≤ 16 ∧ L ≤ 200)) (k1 : L ≤ maxLen) (w : World) :
    Calls Try.prog 5 #[.int .i64 z, .slice av L c] w fun r w' => r = .returned (.bool true) ∧ Below w.heap.size w w' := by
  unfold maxLen at k1
  have hc : z < 1 ∨ (¬ z < 1 ∧ 16 < z) ∨ (¬ z < 1 ∧ ¬ 16 < z ∧ 200 < (L : Int)) := by omega
  clear h
  rcases hc with a1 | ⟨a1, a2⟩ | ⟨a1, a2, a3⟩
  all_goals
    go_enter Try.func5, Try.ntmps5
    go_wp2_with fail
    refine (awake_yes _).mono ?_
    rintro r w1 ⟨rfl, hb⟩
    have cr : w1.cell? ⟨w.heap.size, 0, none⟩ = some (.bool false) := cell_next hb (by simp) (by simp [go_sem])
    have crf : w1.frozen? ⟨w.heap.size, 0, none⟩ = false := (hb.frozen (p := ⟨w.heap.size, 0, none⟩) (by simp)).trans (World.frozen?_alloc_new _ _ _ _)
    have bel := below_alloc hb
    clear hb
    go_wp2
    have hc : (w1.setCell ⟨w.heap.size, 0, none⟩ (.bool true)).cell? ⟨w.heap.size, 0, none⟩ = some (.bool true) := World.cell?_setCell_same' _ _ _ (by rw [cr]; rfl)
    exact bodyPost_ret (v := .bool true) (by simp [results, Try.f5, go_sem, hc]) rfl ⟨rfl, bel.setCell (by show w.heap.size ≤ w.heap.size; omega) _⟩
theorem once_law (z : Int) (av : Option Addr) (L c : Nat) (k1 : L ≤ maxLen) (A : Nat → Int) (w : World) (hl : NumsIn w av L A) :
    Calls Try.prog 5 #[.int .i64 z, .slice av L c] w fun r w' => r = .returned (.bool true) ∧ Below w.heap.size w w' := by
  by_cases h : 1 ≤ z ∧ z ≤ 16 ∧ L ≤ 200
  · obtain ⟨d, rfl⟩ : ∃ d : Nat, z = d := ⟨z.toNat, by omega⟩
    exact once_in d (by omega) (by omega) av L c h.2.2 A w hl
  · exact once_out z av L c h k1 w
end Go.Proofs.Ytopfbmgmpihcnaa
