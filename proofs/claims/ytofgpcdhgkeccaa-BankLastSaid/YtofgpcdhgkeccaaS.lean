/- Memories copied, the parts. -/
import Derived.Test.YtofgpcdhgkeccaaR
import Derived.WalkKit
import Derived.WalkSpells
import Derived.ProofKit
import Derived.Outline
import Derived.Handy
import Derived.RowKit3
import Derived.BigQuiet
import Derived.Deep.QuietTactic
import Derived.Deep.RegionHeld3
import Derived.Deep.Draws
import Derived.Deep.RegionLaw
import Derived.RegionTactic
import Derived.BigRegion
import Derived.IntWalk
import Derived.LoopTactic
import Derived.OwnWalk
import Derived.Laws.AppendOwn
import Derived.Laws.OwnMore
import Derived.Laws.MakeOwn
import Derived.Laws.Pointers
import Derived.Maps.AppendAt
import Derived.Deep.AppendLies
import Derived.Below
namespace Go.Proofs.Ytofgpcdhgkeccaa
open Go.RowKit
set_option linter.unusedVariables false
set_option maxRecDepth 100000


/-- Bank j's three cells turned. -/
theorem Bk.put {w w1 W : World} {G base K : Nat} {V : Nat → Value} {m : Nat → Nat} {xs : Nat → List Value} {S : Nat → Prop} (h : Bk w G base K V m xs) {j c : Nat} {v : Value} {ys : List Value} (hj : j < G)
    (f : Fr S w w1) (hSK : ¬ S K) (hS : ∀ i k, i < G → (V i).ownBlock = some k → ¬ S k) (hown : w1.ownsRow base 36 2 v c ys) (hvK : v.ownBlock ≠ some K) (hvf : ∀ g, v.ownBlock = some g → w.heap.size ≤ g)
    (F : Fr (fun k => k = K) w1 W) (oc : ∀ o, o ≠ j * 3 → o ≠ j * 3 + 1 → o ≠ j * 3 + 2 → W.cell? ⟨K, o, none⟩ = w1.cell? ⟨K, o, none⟩) (fz : ∀ o, W.frozen? ⟨K, o, none⟩ = w1.frozen? ⟨K, o, none⟩)
    (r s : Int) (k0 : W.cell? ⟨K, j * 3, none⟩ = some (.int .i64 r)) (k1 : W.cell? ⟨K, j * 3 + 1, none⟩ = some (.int .i64 s)) (k2 : W.cell? ⟨K, j * 3 + 2, none⟩ = some v) :
    Bk W G base K (upd V j v) (upd m j c) (upd xs j ys) := by
  refine ⟨Nat.lt_of_lt_of_le h.hK (Nat.le_trans f.size F.size), fun i hi => ?_, fun i hi => ?_, fun i hi => ?_, fun i hi => ?_, fun i s hi hs hne => ?_⟩
  · obtain ⟨⟨r', a1⟩, ⟨s', a2⟩, a3, a4, a5⟩ := h.cnt i hi
    refine ⟨?_, ?_, (fz _).trans ((f.frozen h.hK hSK).trans a3), (fz _).trans ((f.frozen h.hK hSK).trans a4), (fz _).trans ((f.frozen h.hK hSK).trans a5)⟩
    · by_cases e : i = j
      · subst e; exact ⟨r, k0⟩
      · exact ⟨r', (oc _ (by omega) (by omega) (by omega)).trans ((f.cell h.hK hSK).trans a1)⟩
    · by_cases e : i = j
      · subst e; exact ⟨s, k1⟩
      · exact ⟨s', (oc _ (by omega) (by omega) (by omega)).trans ((f.cell h.hK hSK).trans a2)⟩
  · by_cases e : i = j
    · subst e; rw [upd_same]; exact k2
    · rw [upd_other _ e]; exact (oc _ (by omega) (by omega) (by omega)).trans ((f.cell h.hK hSK).trans (h.sl i hi))
  · by_cases e : i = j
    · subst e
      rw [upd_same, upd_same, upd_same]
      exact ownsRow_fr hown F (fun k hk e => hvK (by rw [hk, e]))
    · rw [upd_other _ e, upd_other _ e, upd_other _ e]
      exact ownsRow_fr (ownsRow_fr (h.own i hi) f (fun k hk => hS i k hi hk)) F (fun k hk e2 => h.nK i hi (by rw [hk, e2]))
  · by_cases e : i = j
    · subst e; rw [upd_same]; exact hvK
    · rw [upd_other _ e]; exact h.nK i hi
  · have key : ∀ t, t < G → (V t).ownBlock = none ∨ (V t).ownBlock ≠ v.ownBlock := by
      intro t ht
      cases hb : (V t).ownBlock with
      | none => exact .inl rfl
      | some g =>
        right
        intro e
        have := hvf g e.symm
        have := ((h.own t ht).lt g hb).2
        omega
    by_cases e : i = j
    · subst e
      rw [upd_same, upd_other _ (fun h => hne h.symm)]
      rcases key s hs with e2 | e2
      · rw [e2]
        cases v.ownBlock
        · exact .inl rfl
        · exact .inr (by simp)
      · exact .inr (fun e => e2 e.symm)
    · by_cases e2 : s = j
      · subst e2
        rw [upd_same, upd_other _ e]
        exact key i hi
      · rw [upd_other _ e, upd_other _ e2]; exact h.far i s hi hs hne
/-- The cells of bank j's lines. -/
def rowOf (φ : Nat → Int) (G j : Nat) (m : Nat) : List Value := (List.range (m * 2)).map fun i => .int .i64 (φ ((i / 2 * G + j) * 2 + i % 2))
theorem rowOf_len (φ : Nat → Int) (G j m : Nat) : (rowOf φ G j m).length = m * 2 := by simp [rowOf]
theorem rowOf_get (φ : Nat → Int) (G j m : Nat) (i : Nat) (hi : i < m * 2) : (rowOf φ G j m)[i]? = some (.int .i64 (φ ((i / 2 * G + j) * 2 + i % 2))) := by simp [rowOf, hi]
theorem rowOf_at (φ : Nat → Int) (G j m p t : Nat) (hp : p < m) (ht : t < 2) : (rowOf φ G j m)[p * 2 + t]? = some (.int .i64 (φ ((p * G + j) * 2 + t))) := by
  rw [rowOf_get _ _ _ _ _ (by omega), show (p * 2 + t) / 2 = p by omega, show (p * 2 + t) % 2 = t by omega]
theorem rowOf_one (φ : Nat → Int) (G j m : Nat) : ∀ u ∈ rowOf φ G j m, u.oneCell' = true := by
  intro u hu
  simp only [rowOf, List.mem_map] at hu
  obtain ⟨i, -, rfl⟩ := hu
  rfl
theorem add_plain0 (g j : Nat) : (⟨g, 0, none⟩ : Addr).add j = ⟨g, j, none⟩ := by unfold Addr.add; split <;> simp_all
theorem Mem.row_cells {w : World} {q : Cfg} {M K : Nat} {L : Nat → Nat} {φ : Nat → Int} (h : Mem w q M K L φ) {j m : Nat} (hj : j < q.G) (hm : ∀ p, p < m ↔ p * q.G + j < q.n) : ∀ i u, (rowOf φ q.G j m)[i]? = some u → w.cell? ((⟨L j, 0, none⟩ : Addr).add i) = some u := by
  intro i u hu
  have hi : i < m * 2 := by
    rw [← rowOf_len φ q.G j m]
    exact (List.getElem?_eq_some_iff.1 hu).1
  rw [rowOf_get _ _ _ _ _ hi] at hu
  rw [add_plain0]
  obtain ⟨a1, a2, a3, a4, a5, -⟩ := h.lns j (i / 2) hj ((hm _).1 (by omega))
  have : i % 2 = 0 ∨ i % 2 = 1 := by omega
  rcases this with e | e
  · rw [e] at hu
    have e2 : i / 2 * 2 = i := by omega
    rw [e2] at a4
    rw [a4]; exact hu
  · rw [e] at hu
    have e2 : i / 2 * 2 + 1 = i := by omega
    rw [e2] at a5
    rw [a5]; exact hu
end Go.Proofs.Ytofgpcdhgkeccaa
