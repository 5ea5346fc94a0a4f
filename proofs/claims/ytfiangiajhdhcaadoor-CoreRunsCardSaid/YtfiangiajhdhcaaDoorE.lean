/- slices.Clone of instructions. -/
import Derived.Test.YtfiangiajhdhcaaDoorD
import Derived.WalkKit
import Derived.WalkSpells
import Derived.ProofKit
import Derived.Outline
import Derived.Handy
import Derived.RowKit3
import Derived.BigQuiet
import Derived.Deep.QuietTactic
import Derived.Deep.RegionHeld3
import Derived.Deep.Draws
import Derived.Deep.RegionLaw
import Derived.RegionTactic
import Derived.BigRegion
import Derived.IntWalk
import Derived.LoopTactic
import Derived.OwnWalk
import Derived.Laws.AppendOwn
import Derived.Laws.OwnMore
import Derived.Laws.MakeOwn
import Derived.Laws.Pointers
import Derived.Maps.AppendAt
import Derived.Deep.AppendLies
import Derived.Below
import Derived.RangeFuncNested
import Derived.RangeFuncBound
import Derived.RangeFuncCalls
import Derived.RangeFuncLeaves
import Derived.Shelf.Abstract
import Derived.LoopNIn
import Derived.LoopIn
import Derived.OwnWalkIn
import Derived.TacticsInMore
import Derived.Shelf.RegionOpen
namespace Go.Proofs.YtfiangiajhdhcaaDoor
open Go.Shelf Go.RowKit
set_option linter.unusedVariables false
set_option maxRecDepth 100000

def at4 (m : Nat) (a b c d : Int) : Int := if m = 0 then a else if m = 1 then b else if m = 2 then c else d
def icells (A B C D : Nat → Int) (L : Nat) : List Value := (List.range (L * 4)).map fun j => Value.int .i64 (at4 (j % 4) (A (j / 4)) (B (j / 4)) (C (j / 4)) (D (j / 4)))
theorem icells_len (A B C D : Nat → Int) (L : Nat) : (icells A B C D L).length = L * 4 := by simp [icells]
theorem icells_cell (A B C D : Nat → Int) (L : Nat) : ∀ u ∈ icells A B C D L, u.oneCell' = true := by
  intro u hu
  obtain ⟨j, _, rfl⟩ := List.mem_map.1 hu
  rfl
theorem icells_get (A B C D : Nat → Int) (L i m : Nat) (hi : i < L) (hm : m < 4) : (icells A B C D L)[i * 4 + m]? = some (.int .i64 (at4 m (A i) (B i) (C i) (D i))) := by
  have h1 : i * 4 + m < L * 4 := by omega
  have h2 : (i * 4 + m) % 4 = m := by omega
  have h3 : (i * 4 + m) / 4 = i := by omega
  simp [icells, h1, h2, h3]
theorem ops_news {w : World} {a : Addr} {L : Nat} {A B C D : Nat → Int} (h : OpsIn w (some a) L A B C D) (o : Obj) : ∀ j u, (icells A B C D L)[j]? = some u → (w.alloc o).cell? (a.add j) = some u := by
  intro j u hu
  have hj : j < L * 4 := by
    have := (List.getElem?_eq_some_iff.1 hu).1
    rwa [icells_len] at this
  rcases h with h0 | ⟨b, off, h1, h2, h3⟩
  · omega
  · cases h1
    have e : j = (j / 4) * 4 + j % 4 := by omega
    have hm : j % 4 < 4 := Nat.mod_lt _ (by omega)
    have hi : j / 4 < L := by omega
    rw [e, icells_get A B C D L _ _ hi hm] at hu
    injection hu with hu
    subst hu
    obtain ⟨g0, g1, g2, g3⟩ := h3 _ hi
    rw [add_plain]
    rw [World.cell?_alloc_lt w o ⟨b, off + j, none⟩ h2]
    have hm4 : j % 4 = 0 ∨ j % 4 = 1 ∨ j % 4 = 2 ∨ j % 4 = 3 := by omega
    rcases hm4 with hm | hm | hm | hm
    · rw [hm, show off + j = off + j / 4 * 4 by omega]; exact g0
    · rw [hm, show off + j = off + j / 4 * 4 + 1 by omega]; exact g1
    · rw [hm, show off + j = off + j / 4 * 4 + 2 by omega]; exact g2
    · rw [hm, show off + j = off + j / 4 * 4 + 3 by omega]; exact g3
theorem ops_own {w : World} {base L : Nat} {v : Value} {A B C D : Nat → Int} (h : w.ownsRow base 23 4 v L (icells A B C D L)) : ∃ av c, v = .slice av L c ∧ OpsIn w av L A B C D ∧ ∀ a, av = some a → base ≤ a.block ∧ a.block < w.heap.size := by
  have hlt := h.lt
  rcases h.2 with ⟨rfl, h0⟩ | ⟨g, cap, cur, rfl, hb, hg, hcc, hm, hs, ht⟩
  · subst h0
    exact ⟨none, 0, rfl, .inl rfl, fun a e => by cases e⟩
  · have hgl := hlt g rfl
    refine ⟨_, _, rfl, .inr ⟨g, 0, rfl, hgl.2, fun i hi => ?_⟩, fun a e => ?_⟩
    · have q : ∀ m, m < 4 → w.cell? ⟨g, i * 4 + m, none⟩ = some (.int .i64 (at4 m (A i) (B i) (C i) (D i))) := fun m hm => (h.cellAt (i * 4 + m) (by omega)).trans (icells_get A B C D L i m hi hm)
      rw [Nat.zero_add]
      exact ⟨q 0 (by omega), q 1 (by omega), q 2 (by omega), q 3 (by omega)⟩
    · cases e
      exact ⟨hb, hgl.2⟩
theorem nil_some (a : Addr) (n cp : Nat) (w : World) : Sem.run Tryd.prog (binOp BinOp.eql 51 (.slice (some a) n cp) (.slice none 0 0)) w = Result.ok (.bool false) w := by kernel_rfl
theorem nil_none (n cp : Nat) (w : World) : Sem.run Tryd.prog (binOp BinOp.eql 51 (.slice none n cp) (.slice none 0 0)) w = Result.ok (.bool true) w := by kernel_rfl
theorem info23 : (Tryd.prog.info? 23).map (fun i => (i.zero, i.size, i.bytes)) = some (some (.agg #[.int .i64 0, .int .i64 0, .int .i64 0, .int .i64 0]), 4, 32) := by kernel_rfl
theorem info_parts {e : TypeId} {z : Option Value} {s b : Nat} (h : (Tryd.prog.info? e).map (fun i => (i.zero, i.size, i.bytes)) = some (z, s, b)) : ∃ i, Tryd.prog.info? e = some i ∧ i.zero = z ∧ i.size = s ∧ i.bytes = b := by
  cases hi : Tryd.prog.info? e with
  | none => rw [hi] at h; cases h
  | some i => rw [hi] at h; simp at h; exact ⟨i, rfl, h.1, h.2.1, h.2.2⟩
set_option maxHeartbeats 2000000 in
theorem clone_i (av : Option Addr) (L c : Nat) (A B C D : Nat → Int) (hL : L ≤ maxLen) (h32 : L ≤ 32) (w : World) (hl : OpsIn w av L A B C D) : Calls Tryd.prog 78 #[.slice av L c] w fun r w' => ∃ av' c', r = .returned (.slice av' L c') ∧ OpsIn w' av' L A B C D ∧ (∀ a, av' = some a → w.heap.size ≤ a.block ∧ a.block < w'.heap.size) ∧ Below w.heap.size w w' := by
  obtain ⟨i0, hi, hz0, hz1, hz2⟩ := info_parts info23
  cases av with
  | none =>
    have h0 : L = 0 := by
      rcases hl with h | ⟨b, off, h1, _⟩
      · exact h
      · cases h1
    subst h0
    have hn0 := nil_none 0 c
    clear hl
    go_enter Tryd.func78, Tryd.ntmps78
    go_wp2
    go_ret
    exact ⟨none, 0, rfl, .inl rfl, fun a e => (by cases e), Below.refl _ _⟩
  | some a =>
    have hmk := hide (World.ownsRow_made (base := w.heap.size) (e := 23) (size := 4) w #[] 0 (Nat.le_refl _) (by unfold maxLen; omega) rfl)
    have hns := nil_some a L c
    have hnews : Hid (∀ j u, (icells A B C D L)[j]? = some u → (w.alloc (.cells #[] 23)).cell? (a.add j) = some u) := hide (ops_news hl _)
    have hln := hide (icells_len A B C D L)
    have h1 := hide (icells_cell A B C D L)
    have ho := hide (fun (w' : World) (v' : Value) (h : w'.ownsRow w.heap.size 23 4 v' L (icells A B C D L)) => ops_own h)
    obtain ⟨K, hK⟩ : ∃ K, K = icells A B C D L := ⟨_, rfl⟩
    rw [← hK] at hnews hln h1 ho
    clear hl hK
    go_enter Tryd.func78, Tryd.ntmps78
    go_wp2_with (at_builtin; refine wpList_append_own _ rfl _ _ 51 rfl w.heap.size 23 i0 (.agg #[.int .i64 0, .int .i64 0, .int .i64 0, .int .i64 0]) 4 32 Tryd.underlying51 hi hz0 hz1 hz2 rfl (by decide) _ _ _ rfl hmk.out a L c K rfl hln.out hnews.out h1.out (by unfold maxLen; omega) (by omega) (by simp) ?_; intro v' w1 hown' hgrow _)
    have hown2 : w1.ownsRow w.heap.size 23 4 v' L K := by simpa using hown'
    obtain ⟨av', c', rfl, k1, k2⟩ := ho.out _ _ hown2
    refine bodyPost_ret (v := .slice av' L c') (by simp [results, Tryd.results78, go_sem]) rfl ?_
    exact ⟨av', c', rfl, k1, k2, ((Below.refl w.heap.size w).alloc (Nat.le_refl _) _).grown hgrow (by simp) (fun j hj => (hmk.out.lt j hj).1)⟩
end Go.Proofs.YtfiangiajhdhcaaDoor
