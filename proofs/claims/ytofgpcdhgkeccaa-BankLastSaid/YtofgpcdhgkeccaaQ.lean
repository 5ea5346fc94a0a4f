/- Memories in the making. -/
import Derived.Test.YtofgpcdhgkeccaaP
import Derived.WalkKit
import Derived.WalkSpells
import Derived.ProofKit
import Derived.Outline
import Derived.Handy
import Derived.RowKit3
import Derived.BigQuiet
import Derived.Deep.QuietTactic
import Derived.Deep.RegionHeld3
import Derived.Deep.Draws
import Derived.RegionTactic
import Derived.BigRegion
import Derived.IntWalk
import Derived.LoopTactic
import Derived.OwnWalk
import Derived.Laws.AppendOwn
import Derived.Laws.OwnMore
import Derived.Laws.MakeOwn
import Derived.Laws.Pointers
import Derived.Maps.AppendAt
import Derived.Deep.AppendLies
import Derived.Below
namespace Go.Proofs.Ytofgpcdhgkeccaa
open Go.RowKit
set_option linter.unusedVariables false
set_option maxRecDepth 100000


theorem info74 : (Try.prog.info? 74).map (fun i => (i.zero, i.size, i.bytes)) = some (some (.agg #[.int .i64 0, .int .i64 0, .slice none 0 0]), 3, 40) := by kernel_rfl
/-- How many of the first k lines lie in bank j. -/
def cntL (G k j : Nat) : Nat := (k + G - 1 - j) / G
theorem cnt_iff {G n j : Nat} (h1 : 1 ≤ G) (h4 : G ≤ 4) (hj : j < G) (p : Nat) : p < cntL G n j ↔ p * G + j < n := by
  unfold cntL
  have : G = 1 ∨ G = 2 ∨ G = 3 ∨ G = 4 := by omega
  rcases this with rfl | rfl | rfl | rfl <;> omega
theorem cnt_zero {G j : Nat} (h1 : 1 ≤ G) (h4 : G ≤ 4) (hj : j < G) : cntL G 0 j = 0 := by
  unfold cntL
  have : G = 1 ∨ G = 2 ∨ G = 3 ∨ G = 4 := by omega
  rcases this with rfl | rfl | rfl | rfl <;> omega
theorem cnt_same {G k j : Nat} (h1 : 1 ≤ G) (h4 : G ≤ 4) (hj : k % G = j) : cntL G (k + 1) j = cntL G k j + 1 := by
  unfold cntL
  have : G = 1 ∨ G = 2 ∨ G = 3 ∨ G = 4 := by omega
  rcases this with rfl | rfl | rfl | rfl <;> omega
theorem cnt_other {G k j : Nat} (h1 : 1 ≤ G) (h4 : G ≤ 4) (hjG : j < G) (hj : k % G ≠ j) : cntL G (k + 1) j = cntL G k j := by
  unfold cntL
  have : G = 1 ∨ G = 2 ∨ G = 3 ∨ G = 4 := by omega
  rcases this with rfl | rfl | rfl | rfl <;> omega
theorem cnt_le {G k j : Nat} (h1 : 1 ≤ G) (h4 : G ≤ 4) (hj : j < G) : cntL G k j ≤ k := by
  unfold cntL
  have : G = 1 ∨ G = 2 ∨ G = 3 ∨ G = 4 := by omega
  rcases this with rfl | rfl | rfl | rfl <;> omega
theorem made_bank (n j t : Nat) (hj : j < n) (ht : t < 3) : (madeCells #[.int .i64 0, .int .i64 0, .slice none 0 0] (n * 3))[j * 3 + t]? = some (if t < 2 then .int .i64 0 else .slice none 0 0) := by
  have hk : j * 3 + t < n * 3 := by omega
  simp only [madeCells, Array.getElem?_map, Array.getElem?_range, hk, if_true, Option.map_some]
  have : t = 0 ∨ t = 1 ∨ t = 2 := by omega
  rcases this with rfl | rfl | rfl
  · have e : (j * 3 + 0) % 3 = 0 := by omega
    simp [e]
  · have e : (j * 3 + 1) % 3 = 1 := by omega
    simp [e]
  · have e : (j * 3 + 2) % 3 = 2 := by omega
    simp [e]
/-- A memory's own block. -/
def Own (w : World) (q : Cfg) (M K : Nat) : Prop :=
  M < w.heap.size ∧ w.cell? ⟨M, 0, none⟩ = some (.int .i64 q.a) ∧ w.cell? ⟨M, 1, none⟩ = some (.int .i64 q.b) ∧ w.cell? ⟨M, 2, none⟩ = some (.int .i64 q.c) ∧ w.cell? ⟨M, 3, none⟩ = some (.int .i64 q.d) ∧ w.cell? ⟨M, 4, none⟩ = some (.int .i64 q.e) ∧ w.cell? ⟨M, 5, none⟩ = some (.int .i64 q.f) ∧ w.cell? ⟨M, 6, none⟩ = some (.int .i64 q.g) ∧ w.cell? ⟨M, 7, none⟩ = some (.slice (some ⟨K, 0, none⟩) q.G q.G)
theorem Own.kept {w w' : World} {q : Cfg} {M K : Nat} {S : Nat → Prop} (h : Own w q M K) (f : Fr S w w') (hS : ¬ S M) : Own w' q M K := by
  obtain ⟨hM, c0, c1, c2, c3, c4, c5, c6, c7⟩ := h
  exact ⟨Nat.lt_of_lt_of_le hM f.size, (f.cell hM hS).trans c0, (f.cell hM hS).trans c1, (f.cell hM hS).trans c2, (f.cell hM hS).trans c3, (f.cell hM hS).trans c4, (f.cell hM hS).trans c5, (f.cell hM hS).trans c6, (f.cell hM hS).trans c7⟩
theorem own_new (w : World) (q : Cfg) (K : Nat) (t : TypeId) : Own (w.alloc (.cells #[.int .i64 q.a, .int .i64 q.b, .int .i64 q.c, .int .i64 q.d, .int .i64 q.e, .int .i64 q.f, .int .i64 q.g, .slice (some ⟨K, 0, none⟩) q.G q.G] t)) q w.heap.size K := by
  refine ⟨by simp, ?_, ?_, ?_, ?_, ?_, ?_, ?_, ?_⟩ <;> simp [go_sem]
/-- The banks' block in the making: bank j's lines are the slice V j, that owns xs j. -/
structure Bk (w : World) (G base K : Nat) (V : Nat → Value) (m : Nat → Nat) (xs : Nat → List Value) : Prop where
  hK : K < w.heap.size
  cnt : ∀ j, j < G → (∃ r, w.cell? ⟨K, j * 3, none⟩ = some (.int .i64 r)) ∧ (∃ r, w.cell? ⟨K, j * 3 + 1, none⟩ = some (.int .i64 r)) ∧ w.frozen? ⟨K, j * 3, none⟩ = false ∧ w.frozen? ⟨K, j * 3 + 1, none⟩ = false ∧ w.frozen? ⟨K, j * 3 + 2, none⟩ = false
  sl : ∀ j, j < G → w.cell? ⟨K, j * 3 + 2, none⟩ = some (V j)
  own : ∀ j, j < G → w.ownsRow base 36 2 (V j) (m j) (xs j)
  nK : ∀ j, j < G → (V j).ownBlock ≠ some K
  far : ∀ i j, i < G → j < G → i ≠ j → (V i).ownBlock = none ∨ (V i).ownBlock ≠ (V j).ownBlock
theorem ownsRow_fr {w w' : World} {base size n : Nat} {e : TypeId} {v : Value} {xs : List Value} {S : Nat → Prop} (h : w.ownsRow base e size v n xs) (f : Fr S w w') (hS : ∀ k, v.ownBlock = some k → ¬ S k) : w'.ownsRow base e size v n xs := by
  refine ⟨h.1, ?_⟩
  rcases h.2 with hn | ⟨g, cap, cur, rfl, hb, hgg, rest⟩
  · exact .inl hn
  · exact .inr ⟨g, cap, cur, rfl, hb, (f.block g (Array.getElem?_eq_some_iff.1 hgg).1 (hS g rfl)).trans hgg, rest⟩
theorem Bk.kept {w w' : World} {G base K : Nat} {V : Nat → Value} {m : Nat → Nat} {xs : Nat → List Value} {S : Nat → Prop} (h : Bk w G base K V m xs) (f : Fr S w w') (hK : ¬ S K) (hS : ∀ j k, j < G → (V j).ownBlock = some k → ¬ S k) : Bk w' G base K V m xs := by
  refine ⟨Nat.lt_of_lt_of_le h.hK f.size, fun j hj => ?_, fun j hj => (f.cell h.hK hK).trans (h.sl j hj), fun j hj => ownsRow_fr (h.own j hj) f (fun k hk => hS j k hj hk), h.nK, h.far⟩
  obtain ⟨⟨r, a1⟩, ⟨s, a2⟩, a3, a4, a5⟩ := h.cnt j hj
  exact ⟨⟨r, (f.cell h.hK hK).trans a1⟩, ⟨s, (f.cell h.hK hK).trans a2⟩, (f.frozen h.hK hK).trans a3, (f.frozen h.hK hK).trans a4, (f.frozen h.hK hK).trans a5⟩
theorem Bk.next {w w' : World} {G base K : Nat} {V : Nat → Value} {m : Nat → Nat} {xs : Nat → List Value} (h : Bk w G base K V m xs) (hb : Below w.heap.size w w') : Bk w' G base K V m xs :=
  h.kept (Fr.of_below (S := fun _ => False) hb) id (fun _ _ _ _ => id)
/-- Bank j's slice turned: behind an append to it and the store of what came of it. -/
theorem Bk.turn {w w1 : World} {G base K : Nat} {V : Nat → Value} {m : Nat → Nat} {xs : Nat → List Value} (h : Bk w G base K V m xs) {j g c cp : Nat} {ys : List Value} (hj : j < G)
    (hown : w1.ownsRow base 36 2 (.slice (some ⟨g, 0, none⟩) c cp) c ys) (hgrow : w.grownBy w1 (V j).ownBlock) (hat : (V j).ownBlock = some g ∨ w.heap.size ≤ g) :
    Bk (w1.setCell ⟨K, j * 3 + 2, none⟩ (.slice (some ⟨g, 0, none⟩) c cp)) G base K (upd V j (.slice (some ⟨g, 0, none⟩) c cp)) (upd m j c) (upd xs j ys) := by
  have hgK : g ≠ K := by
    rcases hat with e | e
    · exact fun hh => h.nK j hj (by rw [e, hh])
    · have := h.hK; omega
  have f : Fr (fun k => (V j).ownBlock = some k) w w1 := Fr.of_grown' hgrow (fun E hE _ => hE)
  have nK : ¬ (fun k => (V j).ownBlock = some k) K := h.nK j hj
  have oc : ∀ {p o : Nat}, (p ≠ K ∨ o ≠ j * 3 + 2) → (w1.setCell ⟨K, j * 3 + 2, none⟩ (.slice (some ⟨g, 0, none⟩) c cp)).cell? ⟨p, o, none⟩ = w1.cell? ⟨p, o, none⟩ := by
    intro p o hne
    exact setCell_cell_other (by intro e; injection e with e1 e2; rcases hne with h | h <;> exact h (by assumption))
  have fz : ∀ {p o : Nat}, (w1.setCell ⟨K, j * 3 + 2, none⟩ (.slice (some ⟨g, 0, none⟩) c cp)).frozen? ⟨p, o, none⟩ = w1.frozen? ⟨p, o, none⟩ := World.frozen?_setCell _ _ _ _
  have ff : Fr (fun k => k = K) w1 (w1.setCell ⟨K, j * 3 + 2, none⟩ (.slice (some ⟨g, 0, none⟩) c cp)) := (Fr.refl (fun k => k = K) w1).setCell (p := ⟨K, j * 3 + 2, none⟩) (fun _ => rfl) _
  refine ⟨by simpa [World.setCell] using Nat.lt_of_lt_of_le h.hK f.size, fun i hi => ?_, fun i hi => ?_, fun i hi => ?_, fun i hi => ?_, fun i s hi hs hne => ?_⟩
  · obtain ⟨⟨r, a1⟩, ⟨s, a2⟩, a3, a4, a5⟩ := h.cnt i hi
    exact ⟨⟨r, (oc (.inr (by omega))).trans ((f.cell h.hK nK).trans a1)⟩, ⟨s, (oc (.inr (by omega))).trans ((f.cell h.hK nK).trans a2)⟩, fz.trans ((f.frozen h.hK nK).trans a3), fz.trans ((f.frozen h.hK nK).trans a4), fz.trans ((f.frozen h.hK nK).trans a5)⟩
  · by_cases e : i = j
    · subst e
      rw [upd_same]
      exact World.cell?_setCell_same' _ _ _ (by rw [f.cell h.hK nK, h.sl i hi]; rfl)
    · rw [upd_other _ e]; exact (oc (.inr (by omega))).trans ((f.cell h.hK nK).trans (h.sl i hi))
  · by_cases e : i = j
    · subst e
      rw [upd_same, upd_same, upd_same]
      exact ownsRow_fr hown ff (fun k hk e => by simp [Value.ownBlock] at hk; omega)
    · rw [upd_other _ e, upd_other _ e, upd_other _ e]
      refine ownsRow_fr (ownsRow_fr (h.own i hi) f (fun k hk e2 => ?_)) ff (fun k hk e2 => ?_)
      · rcases h.far i j hi hj e with h1 | h1
        · rw [h1] at hk; cases hk
        · exact h1 (hk.trans e2.symm)
      · exact h.nK i hi (by rw [hk, e2])
  · by_cases e : i = j
    · subst e
      rw [upd_same]
      simpa [Value.ownBlock] using hgK
    · rw [upd_other _ e]; exact h.nK i hi
  · have key : ∀ t, t < G → t ≠ j → (V t).ownBlock ≠ some g := by
      intro t ht hne e
      rcases hat with e2 | e2
      · rcases h.far t j ht hj hne with h1 | h1
        · rw [h1] at e; cases e
        · exact h1 (e.trans e2.symm)
      · have := ((h.own t ht).lt g e).2; omega
    by_cases e : i = j
    · subst e
      rw [upd_same, upd_other _ (fun h => hne h.symm)]
      exact .inr (fun e => key s hs (fun h => hne h.symm) e.symm)
    · by_cases e2 : s = j
      · subst e2
        rw [upd_same, upd_other _ e]
        exact .inr (key i hi e)
      · rw [upd_other _ e, upd_other _ e2]; exact h.far i s hi hs hne
theorem bk_new (w : World) (G base : Nat) (t : TypeId) : Bk (w.alloc (.cells (madeCells #[.int .i64 0, .int .i64 0, .slice none 0 0] (G * 3)) t)) G base w.heap.size (fun _ => .slice none 0 0) (fun _ => 0) (fun _ => []) := by
  refine ⟨by simp, fun j hj => ?_, fun j hj => (World.cell?_alloc_new _ _ _ _).trans (made_bank G j 2 hj (by omega)), fun j hj => World.ownsRow_nil _ _ _ _, fun j hj => by simp [Value.ownBlock], fun i j hi hj hne => .inl rfl⟩
  exact ⟨⟨0, (World.cell?_alloc_new _ _ _ _).trans (made_bank G j 0 hj (by omega))⟩, ⟨0, (World.cell?_alloc_new _ _ _ _).trans (made_bank G j 1 hj (by omega))⟩, World.frozen?_alloc_new _ _ _ _, World.frozen?_alloc_new _ _ _ _, World.frozen?_alloc_new _ _ _ _⟩
/-- What is owned by the slices of all banks is a memory. -/
theorem Bk.mem {w : World} {q : Cfg} {M K base : Nat} {V : Nat → Value} {m : Nat → Nat} {xs : Nat → List Value} {φ : Nat → Int} (hO : Own w q M K) (h : Bk w q.G base K V m xs) (hMK : M ≠ K) (hM : ∀ j, j < q.G → (V j).ownBlock ≠ some M) (hm : ∀ j, j < q.G → m j = cntL q.G q.n j) (hz : ∀ j, j < q.G → m j = 0 → V j = .slice none 0 0)
    (hx : ∀ j p t, j < q.G → p < m j → t < 2 → (xs j)[p * 2 + t]? = some (.int .i64 (φ ((p * q.G + j) * 2 + t)))) : Mem w q M K (fun j => ((V j).ownBlock).getD 0) φ ∧ ∀ k, Mem.S q M K (fun j => ((V j).ownBlock).getD 0) k → k = M ∨ k = K ∨ base ≤ k := by
  obtain ⟨h0, c0, c1, c2, c3, c4, c5, c6, c7⟩ := hO
  have hG := q.G1
  have hG4 := q.G4
  have hn := q.n32
  have form : ∀ j, j < q.G → 0 < m j → ∃ g cp, V j = .slice (some ⟨g, 0, none⟩) (m j) cp ∧ base ≤ g ∧ g < w.heap.size ∧ m j ≤ cp ∧ cp ≤ maxLen := by
    intro j hj hp
    rcases (h.own j hj).2 with ⟨_, h0⟩ | ⟨g, cap, cur, hv, hb, hg, hc, hcm, _⟩
    · omega
    · exact ⟨g, cap, hv, hb, (Array.getElem?_eq_some_iff.1 hg).1, hc, hcm⟩
  have pos : ∀ j, j < q.G → j < q.n → 0 < m j := fun j hj hn => by rw [hm j hj]; exact (cnt_iff hG hG4 hj 0).2 (by omega)
  refine ⟨⟨h0, h.hK, hMK, c0, c1, c2, c3, c4, c5, c6, c7, fun j hj => ?_, fun j hj => ?_, fun j p hj hp => ?_, fun i j hi hj hn => ?_⟩, ?_⟩
  · obtain ⟨a1, a2, a3, a4, a5⟩ := h.cnt j hj
    exact ⟨a1, a2, a3, a4⟩
  · refine ⟨m j, ?_, fun p => by rw [hm j hj]; exact cnt_iff hG hG4 hj p, ?_⟩
    · rw [hm j hj]; exact Nat.le_trans (cnt_le hG hG4 hj) hn
    · by_cases hp : 0 < m j
      · obtain ⟨g, cp, e, hb, hl, hc, hcm⟩ := form j hj hp
        right
        refine ⟨hp, cp, hc, hcm, ?_⟩
        simp only [e, Value.ownBlock, Option.getD_some]
        exact (h.sl j hj).trans (by rw [e])
      · left
        refine ⟨by omega, ?_⟩
        rw [h.sl j hj, hz j hj (by omega)]
  · have hpm : p < m j := by rw [hm j hj]; exact (cnt_iff hG hG4 hj p).2 hp
    obtain ⟨g, cp, e, hb, hl, hc, hcm⟩ := form j hj (by omega)
    have hown := h.own j hj
    have hnM := hM j hj
    have hnK := h.nK j hj
    rw [e] at hown hnM hnK
    simp only [e, Value.ownBlock, Option.getD_some]
    simp only [Value.ownBlock, ne_eq, Option.some.injEq] at hnM hnK
    have x0 := hx j p 0 hj hpm (by omega)
    have x1 := hx j p 1 hj hpm (by omega)
    exact ⟨hl, hnM, hnK, (hown.cellAt (p * 2) (by omega)).trans x0, (hown.cellAt (p * 2 + 1) (by omega)).trans x1, hown.frozenAt _, hown.frozenAt _⟩
  · obtain ⟨g1, cp1, e1, -⟩ := form i (by omega) (pos i (by omega) (by omega))
    obtain ⟨g2, cp2, e2, -⟩ := form j hj (pos j hj hn)
    have := h.far i j (by omega) hj (by omega)
    simp only [e1, e2, Value.ownBlock, Option.getD_some] at this ⊢
    rcases this with h | h
    · cases h
    · exact fun e => h (by rw [e])
  · rintro k (rfl | rfl | ⟨j, hj, hn, rfl⟩)
    · exact .inl rfl
    · exact .inr (.inl rfl)
    · obtain ⟨g, cp, e, hb, _⟩ := form j hj (pos j hj hn)
      simp only [e, Value.ownBlock, Option.getD_some]
      exact .inr (.inr hb)
end Go.Proofs.Ytofgpcdhgkeccaa
