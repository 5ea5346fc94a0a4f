/- The reference of stage 2, walked. -/
import Derived.Test.YtofgpcdhgkeccaaV
import Derived.WalkKit
import Derived.WalkSpells
import Derived.ProofKit
import Derived.Outline
import Derived.Handy
import Derived.RowKit3
import Derived.BigQuiet
import Derived.Deep.QuietTactic
import Derived.Deep.RegionHeld3
import Derived.Deep.Draws
import Derived.Deep.RegionLaw
import Derived.RegionTactic
import Derived.BigRegion
import Derived.IntWalk
import Derived.LoopTactic
import Derived.OwnWalk
import Derived.Laws.AppendOwn
import Derived.Laws.OwnMore
import Derived.Laws.MakeOwn
import Derived.Laws.Pointers
import Derived.Maps.AppendAt
import Derived.Deep.AppendLies
import Derived.Below
namespace Go.Proofs.Ytofgpcdhgkeccaa
open Go.RowKit
set_option linter.unusedVariables false
set_option maxRecDepth 100000


/-- The reference's memory: its own block R, its words in block E. -/
structure Rf (w : World) (q : Cfg) (R E : Nat) (ρ : Nat → Int) : Prop where
  hR : R < w.heap.size
  hE : E < w.heap.size
  hRE : R ≠ E
  d0 : w.cell? ⟨R, 0, none⟩ = some (.slice (some ⟨E, 0, none⟩) (q.n * 2) (q.n * 2))
  d1 : w.cell? ⟨R, 1, none⟩ = some (.int .i64 (q.G : Int))
  cnt : ∀ t u, t < 4 → (u = 2 ∨ u = 6) → (∃ x, w.cell? ⟨R, u + t, none⟩ = some (.int .i64 x)) ∧ w.frozen? ⟨R, u + t, none⟩ = false
  ws : ∀ i, i < q.n * 2 → w.cell? ⟨E, i, none⟩ = some (.int .i64 (ρ i)) ∧ w.frozen? ⟨E, i, none⟩ = false
def Rf.S (R E : Nat) (k : Nat) : Prop := k = R ∨ k = E
theorem Rf.kept {w w' : World} {q : Cfg} {R E : Nat} {ρ : Nat → Int} {S : Nat → Prop} (h : Rf w q R E ρ) (f : Fr S w w') (hR : ¬ S R) (hE : ¬ S E) : Rf w' q R E ρ := by
  refine ⟨Nat.lt_of_lt_of_le h.hR f.size, Nat.lt_of_lt_of_le h.hE f.size, h.hRE, (f.cell h.hR hR).trans h.d0, (f.cell h.hR hR).trans h.d1, fun t u ht hu => ?_, fun i hi => ⟨(f.cell h.hE hE).trans (h.ws i hi).1, (f.frozen h.hE hE).trans (h.ws i hi).2⟩⟩
  obtain ⟨⟨x, e⟩, e2⟩ := h.cnt t u ht hu
  exact ⟨⟨x, (f.cell h.hR hR).trans e⟩, (f.frozen h.hR hR).trans e2⟩
theorem Rf.next {w w' : World} {q : Cfg} {R E : Nat} {ρ : Nat → Int} (h : Rf w q R E ρ) (hb : Below w.heap.size w w') : Rf w' q R E ρ := h.kept (Fr.of_below (S := fun _ => False) hb) id id
theorem Rf.setCnt {w : World} {q : Cfg} {R E : Nat} {ρ : Nat → Int} (h : Rf w q R E ρ) {t u : Nat} (ht : t < 4) (hu : u = 2 ∨ u = 6) (x : Int) : Rf (w.setCell ⟨R, u + t, none⟩ (.int .i64 x)) q R E ρ := by
  have oc : ∀ {p o : Nat}, (p ≠ R ∨ o ≠ u + t) → (w.setCell ⟨R, u + t, none⟩ (.int .i64 x)).cell? ⟨p, o, none⟩ = w.cell? ⟨p, o, none⟩ := by
    intro p o hne
    exact setCell_cell_other (by intro e; injection e with e1 e2; rcases hne with h | h <;> exact h (by assumption))
  have fz : ∀ {p o : Nat}, (w.setCell ⟨R, u + t, none⟩ (.int .i64 x)).frozen? ⟨p, o, none⟩ = w.frozen? ⟨p, o, none⟩ := World.frozen?_setCell _ _ _ _
  have sz : (w.setCell ⟨R, u + t, none⟩ (.int .i64 x)).heap.size = w.heap.size := by simp [World.setCell]
  refine ⟨by rw [sz]; exact h.hR, by rw [sz]; exact h.hE, h.hRE, (oc (.inr (by omega))).trans h.d0, (oc (.inr (by omega))).trans h.d1, fun s v hs hv => ?_, fun i hi => ⟨(oc (.inl (fun e => h.hRE e.symm))).trans (h.ws i hi).1, fz.trans (h.ws i hi).2⟩⟩
  obtain ⟨⟨y, e⟩, e2⟩ := h.cnt s v hs hv
  refine ⟨?_, fz.trans e2⟩
  by_cases hh : v + s = u + t
  · rw [hh] at e ⊢; exact ⟨x, World.cell?_setCell_same' _ _ _ (by rw [e]; rfl)⟩
  · exact ⟨y, (oc (.inr hh)).trans e⟩
theorem Rf.set {w : World} {q : Cfg} {R E : Nat} {ρ : Nat → Int} (h : Rf w q R E ρ) {i : Nat} (hi : i < q.n * 2) (x : Int) : Rf (w.setCell ⟨E, i, none⟩ (.int .i64 x)) q R E (upd ρ i x) := by
  have oc : ∀ {p o : Nat}, (p ≠ E ∨ o ≠ i) → (w.setCell ⟨E, i, none⟩ (.int .i64 x)).cell? ⟨p, o, none⟩ = w.cell? ⟨p, o, none⟩ := by
    intro p o hne
    exact setCell_cell_other (by intro e; injection e with e1 e2; rcases hne with h | h <;> exact h (by assumption))
  have fz : ∀ {p o : Nat}, (w.setCell ⟨E, i, none⟩ (.int .i64 x)).frozen? ⟨p, o, none⟩ = w.frozen? ⟨p, o, none⟩ := World.frozen?_setCell _ _ _ _
  have sz : (w.setCell ⟨E, i, none⟩ (.int .i64 x)).heap.size = w.heap.size := by simp [World.setCell]
  refine ⟨by rw [sz]; exact h.hR, by rw [sz]; exact h.hE, h.hRE, (oc (.inl h.hRE)).trans h.d0, (oc (.inl h.hRE)).trans h.d1, fun s v hs hv => ?_, fun k hk => ?_⟩
  · obtain ⟨⟨y, e⟩, e2⟩ := h.cnt s v hs hv
    exact ⟨⟨y, (oc (.inl h.hRE)).trans e⟩, fz.trans e2⟩
  · refine ⟨?_, fz.trans (h.ws k hk).2⟩
    by_cases hh : k = i
    · subst hh; rw [upd_same]; exact World.cell?_setCell_same' _ _ _ (by rw [(h.ws k hk).1]; rfl)
    · rw [upd_other _ hh]; exact (oc (.inr hh)).trans (h.ws k hk).1
theorem info3' : (Try.prog.info? 3).map (fun i => (i.zero, i.size, i.bytes)) = some (some (.int .i64 0), 1, 8) := by kernel_rfl
theorem made_int (n k : Nat) (hk : k < n) : (madeCells #[.int .i64 0] (n * 1))[k]? = some (.int .i64 0) := by
  have hk' : k < n * 1 := by omega
  simp only [madeCells, Array.getElem?_map, Array.getElem?_range, hk', if_true, Option.map_some]
  have : k % 1 = 0 := by omega
  simp [this]
set_option maxHeartbeats 2000000 in
theorem refnew (q : Cfg) (w : World) : Calls Try.prog 10 #[.int .i64 q.b, .int .i64 q.g] w fun r w' => ∃ R E, r = .returned (.pointer (some ⟨R, 0, none⟩)) ∧ Rf w' q R E (fun _ => 0) ∧ w.heap.size ≤ R ∧ w.heap.size ≤ E ∧ Below w.heap.size w w' := by
  obtain ⟨i0, hi, hz0, hz1, hz2⟩ := info_parts info3'
  have h32 := q.n32
  have hb := q.hn
  have h2 := q.ok.2.1
  have hmk : ∀ W : World, (Instr.makeSlice 46 (.int .i64 (4 * q.b)) (.int .i64 (4 * q.b))).run Try.prog W = .ok (.slice (some ⟨W.heap.size, 0, none⟩) (q.n * 2) (q.n * 2)) (W.alloc (.cells (madeCells #[.int .i64 0] (q.n * 2 * 1)) 3)) := fun W => by
    have h := run_make_rowN (P := Try.prog) 46 3 i0 (.int .i64 0) Try.underlying46 hi hz0 .i64 .i64 (q.n * 2) (q.n * 2) (Nat.le_refl _) (by rw [hz2]; omega) (by omega) W
    rw [hz1] at h
    have e : 4 * q.b = ((q.n * 2 : Nat) : Int) := by omega
    rw [e]
    exact h
  have hb' := hide hb
  have h2' := h2
  clear hb
  go_enter Try.func10, Try.ntmps10
  go_wp2
  go_ret
  have hbl : Below (w.alloc (.cells (madeCells #[.int .i64 0] (q.n * 2)) 3)).heap.size (w.alloc (.cells (madeCells #[.int .i64 0] (q.n * 2)) 3)) ((w.alloc (.cells (madeCells #[.int .i64 0] (q.n * 2)) 3)).alloc (.cells #[.slice (some ⟨w.heap.size, 0, none⟩) (q.n * 2) (q.n * 2), .int .i64 q.g, .int .i64 0, .int .i64 0, .int .i64 0, .int .i64 0, .int .i64 0, .int .i64 0, .int .i64 0, .int .i64 0] 49)) := (Below.refl _ _).alloc (Nat.le_refl _) _
  have lt : w.heap.size < (w.alloc (.cells (madeCells #[.int .i64 0] (q.n * 2)) 3)).heap.size := by simp
  refine ⟨w.heap.size + 1, w.heap.size, rfl, ⟨by simp, by simp; omega, by omega, by simp [go_sem], by simp [go_sem, q.hg], fun t u ht hu => ?_, fun i hi => ⟨?_, ?_⟩⟩, by omega, Nat.le_refl _, ((Below.refl _ _).alloc (Nat.le_refl _) _).alloc (by simp) _⟩
  · have : t = 0 ∨ t = 1 ∨ t = 2 ∨ t = 3 := by omega
    rcases hu with rfl | rfl <;> rcases this with rfl | rfl | rfl | rfl <;> exact ⟨⟨0, by simp [go_sem]⟩, by simp [go_sem]⟩
  · have h := made_int (q.n * 2) i hi
    rw [Nat.mul_one] at h
    exact cell_next hbl lt ((World.cell?_alloc_new _ _ _ _).trans h)
  · exact (hbl.frozen (p := ⟨w.heap.size, i, none⟩) lt).trans (World.frozen?_alloc_new _ _ _ _)
theorem err_any (b : Bool) (w : World) : Calls Try.prog 30 #[.bool b] w fun r w' => r = .returned (.int .i64 (if b then 0 else 10)) ∧ w = w' := by
  cases b
  · go_enter Try.func30, Try.ntmps30
    go_wp2
    go_ret
    exact ⟨rfl, rfl⟩
  · go_enter Try.func30, Try.ntmps30
    go_wp2
    go_ret
    exact ⟨rfl, rfl⟩
set_option maxHeartbeats 4000000 in
theorem refwrite_in {q : Cfg} {R E : Nat} {ρ : Nat → Int} (i : Nat) (hi : i < q.n) (x y : Int) (w : World) (hT : Rf w q R E ρ) :
    Calls Try.prog 31 #[.pointer (some ⟨R, 0, none⟩), .int .i64 i, .agg #[.int .i64 x, .int .i64 y]] w fun r w' => r = .returned (.bool true) ∧ Rf w' q R E (upd (upd ρ (i * 2) x) (i * 2 + 1) y) ∧ Fr (Rf.S R E) w w' := by
  have h32 := q.n32
  have hG1 := q.G1
  have hG4 := q.G4
  have HT := hide hT
  have HI := hide hi
  obtain ⟨j, hj⟩ : ∃ j, i % q.G = j := ⟨_, rfl⟩
  have hjG : j < q.G := by rw [← hj]; exact Nat.mod_lt _ (by omega)
  have hj4 : j < 4 := by omega
  have e2 : (i : Int) % q.G = (j : Int) := by rw [← hj]; simp
  have e1 : (i : Int).tmod q.G = (j : Int) := by rw [Int.tmod_eq_emod_of_nonneg (by omega)]; exact e2
  have e3 : IntKind.i64.wrap ((i : Int).tmod q.G) = (j : Int) := by rw [e1]; exact IntWalk.i64_in _ (by omega)
  have e4 : IntKind.i64.wrap (j : Int) = (j : Int) := IntWalk.i64_in _ (by omega)
  have e5 : IntKind.i64.wrap (2 * (i : Int)) = 2 * (i : Int) := IntWalk.i64_in _ (by omega)
  have e6 : IntKind.i64.wrap (2 * (i : Int) + 1) = 2 * (i : Int) + 1 := IntWalk.i64_in _ (by omega)
  have e7 : (2 * (i : Int)).toNat = i * 2 := by omega
  have e8 : (2 * (i : Int) + 1).toNat = i * 2 + 1 := by omega
  have T1 := hide (hT.next ((Below.refl _ _).alloc (Nat.le_refl _) (.cells #[.int .i64 x, .int .i64 y] 35)))
  have d0 := hT.d0
  have d1 := hT.d1
  have d2 := (hT.cnt j 6 hj4 (.inr rfl)).2
  have d3 := (hT.cnt j 6 hj4 (.inr rfl)).1
  obtain ⟨s0, d3⟩ := d3
  have hE := hT.hE
  have hR := hT.hR
  have hne := hT.hRE
  obtain ⟨k1, k2⟩ := hT.ws (i * 2) (by omega)
  obtain ⟨k3, k4⟩ := hT.ws (i * 2 + 1) (by omega)
  have hij : (i : Int) < q.n := by omega
  clear hT hj
  go_enter Try.func31, Try.ntmps31
  go_wp2
  go_region
  go_wp2
  go_region
  go_wp2
  go_region
  go_wp2
  go_ret
  refine ⟨rfl, ?_, ?_⟩
  · exact (((HT.out.setCnt hj4 (.inr rfl) (wrap64 (s0 + 1))).set (i := i * 2) (by omega) x).set (i := i * 2 + 1) (by omega) y).next (by repeat (first | exact Below.refl _ _ | refine below_drew0 ?_ | refine Below.alloc ?_ (Nat.le_refl _) _))
  · repeat (first | refine Fr.drew ?_ | refine Fr.alloc ?_ _)
    exact (((Fr.refl (Rf.S R E) w).setCell (p := ⟨R, 6 + j, none⟩) (fun _ => .inl rfl) _).setCell (p := ⟨E, i * 2, none⟩) (fun _ => .inr rfl) _).setCell (p := ⟨E, i * 2 + 1, none⟩) (fun _ => .inr rfl) _
theorem refwrite_out {q : Cfg} {R E : Nat} {ρ : Nat → Int} (z : Int) (hz : ¬ (0 ≤ z ∧ z < q.n)) (x y : Int) (w : World) (hT : Rf w q R E ρ) :
    Calls Try.prog 31 #[.pointer (some ⟨R, 0, none⟩), .int .i64 z, .agg #[.int .i64 x, .int .i64 y]] w fun r w' => r = .returned (.bool false) ∧ Below w.heap.size w w' := by
  have h32 := q.n32
  have d0 := hT.d0
  have hR := hT.hR
  clear hT
  by_cases h0 : 0 ≤ z
  · have h1 : (q.n : Int) ≤ z := by omega
    replace hz := hide hz
    go_enter Try.func31, Try.ntmps31
    go_wp2
    go_ret
    exact ⟨rfl, (Below.refl _ _).alloc (Nat.le_refl _) _⟩
  · replace hz := hide hz
    go_enter Try.func31, Try.ntmps31
    go_wp2
    go_ret
    exact ⟨rfl, (Below.refl _ _).alloc (Nat.le_refl _) _⟩
set_option maxHeartbeats 4000000 in
theorem refread_in {q : Cfg} {R E : Nat} {ρ : Nat → Int} (i : Nat) (hi : i < q.n) (w : World) (hT : Rf w q R E ρ) :
    Calls Try.prog 29 #[.pointer (some ⟨R, 0, none⟩), .int .i64 i] w fun r w' => r = .returned (.tuple #[.agg #[.int .i64 (ρ (i * 2)), .int .i64 (ρ (i * 2 + 1))], .bool true]) ∧ Rf w' q R E ρ ∧ Fr (Rf.S R E) w w' := by
  have h32 := q.n32
  have hG1 := q.G1
  have hG4 := q.G4
  have HT := hide hT
  have HI := hide hi
  obtain ⟨j, hj⟩ : ∃ j, i % q.G = j := ⟨_, rfl⟩
  have hjG : j < q.G := by rw [← hj]; exact Nat.mod_lt _ (by omega)
  have hj4 : j < 4 := by omega
  have e2 : (i : Int) % q.G = (j : Int) := by rw [← hj]; simp
  have e1 : (i : Int).tmod q.G = (j : Int) := by rw [Int.tmod_eq_emod_of_nonneg (by omega)]; exact e2
  have e3 : IntKind.i64.wrap ((i : Int).tmod q.G) = (j : Int) := by rw [e1]; exact IntWalk.i64_in _ (by omega)
  have e4 : IntKind.i64.wrap (j : Int) = (j : Int) := IntWalk.i64_in _ (by omega)
  have e5 : IntKind.i64.wrap (2 * (i : Int)) = 2 * (i : Int) := IntWalk.i64_in _ (by omega)
  have e6 : IntKind.i64.wrap (2 * (i : Int) + 1) = 2 * (i : Int) + 1 := IntWalk.i64_in _ (by omega)
  have e7 : (2 * (i : Int)).toNat = i * 2 := by omega
  have e8 : (2 * (i : Int) + 1).toNat = i * 2 + 1 := by omega
  have d0 := hT.d0
  have d1 := hT.d1
  have d2 := (hT.cnt j 2 hj4 (.inl rfl)).2
  have d3 := (hT.cnt j 2 hj4 (.inl rfl)).1
  obtain ⟨s0, d3⟩ := d3
  have hE := hT.hE
  have hR := hT.hR
  have hne := hT.hRE
  obtain ⟨k1, k2⟩ := hT.ws (i * 2) (by omega)
  obtain ⟨k3, k4⟩ := hT.ws (i * 2 + 1) (by omega)
  have hij : (i : Int) < q.n := by omega
  clear hT hj
  go_enter Try.func29, Try.ntmps29
  go_wp2
  go_region
  go_wp2
  go_region
  go_wp2
  refine bodyPost_ret (v := .tuple #[.agg #[.int .i64 (ρ (i * 2)), .int .i64 (ρ (i * 2 + 1))], .bool true]) (by simp [results, Try.results29, go_sem]) rfl ⟨rfl, ?_, ?_⟩
  · exact (HT.out.setCnt hj4 (.inl rfl) (wrap64 (s0 + 1))).next (by repeat (first | exact Below.refl _ _ | refine below_drew0 ?_ | refine Below.alloc ?_ (Nat.le_refl _) _))
  · repeat (first | refine Fr.drew ?_ | refine Fr.alloc ?_ _)
    exact (Fr.refl (Rf.S R E) w).setCell (p := ⟨R, 2 + j, none⟩) (fun _ => .inl rfl) _
theorem refread_out {q : Cfg} {R E : Nat} {ρ : Nat → Int} (z : Int) (hz : ¬ (0 ≤ z ∧ z < q.n)) (w : World) (hT : Rf w q R E ρ) :
    Calls Try.prog 29 #[.pointer (some ⟨R, 0, none⟩), .int .i64 z] w fun r w' => r = .returned (.tuple #[.agg #[.int .i64 0, .int .i64 0], .bool false]) ∧ Below w.heap.size w w' := by
  have h32 := q.n32
  have d0 := hT.d0
  have hR := hT.hR
  clear hT
  by_cases h0 : 0 ≤ z
  · have h1 : (q.n : Int) ≤ z := by omega
    replace hz := hide hz
    go_enter Try.func29, Try.ntmps29
    go_wp2
    exact bodyPost_ret (v := .tuple #[.agg #[.int .i64 0, .int .i64 0], .bool false]) (by simp [results, Try.results29, go_sem]) rfl ⟨rfl, by repeat (first | exact Below.refl _ _ | refine below_drew0 ?_ | refine Below.setCell ?_ (by simp) _ | refine Below.alloc ?_ (by simp) _)⟩
  · replace hz := hide hz
    go_enter Try.func29, Try.ntmps29
    go_wp2
    exact bodyPost_ret (v := .tuple #[.agg #[.int .i64 0, .int .i64 0], .bool false]) (by simp [results, Try.results29, go_sem]) rfl ⟨rfl, by repeat (first | exact Below.refl _ _ | refine below_drew0 ?_ | refine Below.setCell ?_ (by simp) _ | refine Below.alloc ?_ (by simp) _)⟩
theorem refwrite_z {q : Cfg} {R E : Nat} {ρ : Nat → Int} (z : Int) (i : Nat) (hz : z = (i : Int)) (hi : i < q.n) (x y : Int) (w : World) (hT : Rf w q R E ρ) :
    Calls Try.prog 31 #[.pointer (some ⟨R, 0, none⟩), .int .i64 z, .agg #[.int .i64 x, .int .i64 y]] w fun r w' => r = .returned (.bool true) ∧ Rf w' q R E (upd (upd ρ (i * 2) x) (i * 2 + 1) y) ∧ Fr (Rf.S R E) w w' := by
  subst hz; exact refwrite_in i hi x y w hT
set_option maxHeartbeats 2000000 in
theorem refscrub_in {q : Cfg} {R E : Nat} {ρ : Nat → Int} (x : Nat) (hx : x * 2 < q.n) (w : World) (hT : Rf w q R E ρ) :
    Calls Try.prog 32 #[.pointer (some ⟨R, 0, none⟩), .int .i64 x] w fun r w' => r = .returned (.bool true) ∧ Rf w' q R E (scr ρ x) ∧ Fr (Rf.S R E) w w' := by
  have h32 := q.n32
  have he := hide q.hn
  have HX := hide hx
  have HT := hide hT
  have d0 := hT.d0
  have hR := hT.hR
  have e9 : (4 : Int) ≤ (q.n : Int) * 2 := by have := he.out; omega
  have e10 : ¬ ((q.n : Int) * 2 / 4 ≤ (x : Int)) := by have := he.out; omega
  have e11 : ¬ (q.n * 2 / 4 ≤ x) := by have := he.out; omega
  clear hT
  go_enter Try.func32, Try.ntmps32
  go_wp2_with fail
  refine (refwrite_z _ (x * 2) (by omega) HX.out 0 0 _ HT.out).mono ?_
  rintro r w1 ⟨rfl, h1, f1⟩
  clear d0
  replace h1 := hide h1
  replace f1 := hide f1
  go_wp2_with fail
  refine (refwrite_z _ (x * 2 + 1) (by omega) (by have := he.out; have := HX.out; omega) 0 0 _ h1.out).mono ?_
  rintro r w2 ⟨rfl, h2, f2⟩
  replace h2 := hide h2
  replace f2 := hide f2
  go_wp2
  go_ret
  exact ⟨rfl, h2.out, f1.out.trans f2.out (fun _ _ h => h)⟩
theorem refscrub_out {q : Cfg} {R E : Nat} {ρ : Nat → Int} (z : Int) (hz : ¬ (0 ≤ z ∧ z * 2 < q.n)) (w : World) (hT : Rf w q R E ρ) :
    Calls Try.prog 32 #[.pointer (some ⟨R, 0, none⟩), .int .i64 z] w fun r w' => r = .returned (.bool false) ∧ Below w.heap.size w w' := by
  have h32 := q.n32
  have he := hide q.hn
  have d0 := hT.d0
  have hR := hT.hR
  clear hT
  by_cases h0 : 0 ≤ z
  · have h1 : (q.n : Int) * 2 / 4 ≤ z := by have := he.out; omega
    replace hz := hide hz
    go_enter Try.func32, Try.ntmps32
    go_wp2
    go_ret
    exact ⟨rfl, Below.refl _ _⟩
  · replace hz := hide hz
    go_enter Try.func32, Try.ntmps32
    go_wp2
    go_ret
    exact ⟨rfl, Below.refl _ _⟩
end Go.Proofs.Ytofgpcdhgkeccaa
