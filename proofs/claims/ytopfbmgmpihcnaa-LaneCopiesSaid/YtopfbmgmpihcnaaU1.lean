/- Copies, walked. -/
import Derived.Test.YtopfbmgmpihcnaaJ
import Derived.WalkKit
import Derived.WalkSpells
import Derived.ProofKit
import Derived.Outline
import Derived.Handy
import Derived.RowKit3
import Derived.BigQuiet
import Derived.Deep.QuietTactic
import Derived.Deep.RegionHeld3
import Derived.Deep.Draws
import Derived.Deep.RegionLaw
import Derived.RegionTactic
import Derived.BigRegion
import Derived.IntWalk
import Derived.LoopTactic
import Derived.OwnWalk
import Derived.Laws.AppendOwn
import Derived.Laws.OwnMore
import Derived.Laws.MakeOwn
import Derived.Laws.Pointers
import Derived.Maps.AppendAt
import Derived.Deep.AppendLies
import Derived.Below
namespace Go.Proofs.Ytopfbmgmpihcnaa
open Go.RowKit
set_option linter.unusedVariables false
set_option maxRecDepth 100000

def CopyOf (w : World) (d : Nat) (ns : List Nt) (r : Ending) (w' : World) : Prop :=
  ∃ (Q : Nat) (v' : Value), r = .returned (.pointer (some ⟨Q, 0, none⟩)) ∧ La w' Q d v' ns ∧ (∀ k, La.S Q v' k → w.heap.size ≤ k) ∧ Below w.heap.size w w'
theorem copy_end0 {w w2 : World} {d : Nat} (hd : d ≤ 16) (b : Below w.heap.size w w2) (Q : Nat) (hQ : w2.heap.size = Q) : CopyOf w d [] (.returned (.pointer (some ⟨Q, 0, none⟩))) (w2.alloc (.cells #[.int .i64 (d : Int), .slice none 0 0] 58)) := by
  subst hQ
  refine ⟨w2.heap.size, .slice none 0 0, rfl, ⟨by simp, by simp [go_sem], by simp [go_sem], World.frozen?_alloc_new _ _ _ _, World.ownsRow_nil _ _ _ _, by simp [Value.ownBlock], Nat.zero_le _, hd⟩, fun k hk => ?_, b.alloc b.size _⟩
  rcases hk with hk | hk
  · have := b.size; omega
  · cases hk
theorem copy_end {w w2 : World} {d g cp n : Nat} {ns : List Nt} (hd : d ≤ 16) (hle : ns.length ≤ d) (hn : ns.length = n) (b : Below w.heap.size w w2) (ho : w2.ownsRow w.heap.size 51 9 (.slice (some ⟨g, 0, none⟩) n cp) n (cellsOf ns)) (Q : Nat) (hQ : w2.heap.size = Q) : CopyOf w d ns (.returned (.pointer (some ⟨Q, 0, none⟩))) (w2.alloc (.cells #[.int .i64 (d : Int), .slice (some ⟨g, 0, none⟩) n cp] 58)) := by
  subst hQ
  subst hn
  have hg := ho.lt g rfl
  refine ⟨w2.heap.size, .slice (some ⟨g, 0, none⟩) ns.length cp, rfl, ⟨by simp, by simp [go_sem], by simp [go_sem], World.frozen?_alloc_new _ _ _ _, (ow_mono ho (Nat.zero_le _)).alloc _, fun e => ?_, hle, hd⟩, fun k hk => ?_, b.alloc b.size _⟩
  · have e2 : g = w2.heap.size := by simpa [Value.ownBlock] using e
    omega
  · rcases hk with hk | hk
    · have := b.size; omega
    · have e2 : g = k := by simpa [Value.ownBlock] using hk
      omega
set_option maxHeartbeats 4000000 in
theorem copy_any {P d : Nat} {v : Value} {ns : List Nt} (w : World) (h : La w P d v ns) : Calls Try.prog 12 #[.pointer (some ⟨P, 0, none⟩)] w (CopyOf w d ns) := by
  obtain ⟨i0, hi, hz0, hz1, hz2⟩ := info_parts info51
  have c0 := h.c0
  have c1 := h.c1
  have hd := h.d16
  have hle := h.le
  have hP := h.hP
  have H := hide h
  have hf := h.form
  have HS := hide (show Src w.drew v ns from (h.src.fr ((Fr.refl (fun _ => False) w).drew) (fun _ _ => id)))
  clear h
  by_cases h0 : ns = []
  · subst h0
    rcases hf with ⟨rfl, -⟩ | ⟨g, cp, rfl, -, -, -⟩
    all_goals
      go_enter Try.func12, Try.ntmps12
      go_wp2
      go_region_law ((refine step_append_src0 (by rfl) (.const (.slice none 0 0)) (.tmp 12) (by rfl) _ (by rfl) (by rfl) HS.out ?_; intro w2 hb2; have q0 : w2.cell? ⟨P, 0, none⟩ = some (.int .i64 (d : Int)) := cell_next hb2 hP (show w.drew.cell? ⟨P, 0, none⟩ = _ from c0)))
      all_goals
        have hBl : Below w.heap.size w w2 := (below_drew0 (Below.refl w.heap.size w)).trans hb2
        go_wp2
        go_ret
        exact copy_end0 hd hBl _ rfl
  · rcases hf with ⟨-, e⟩ | ⟨g, cp, rfl, k1, k2, k3⟩
    · exact absurd e h0
    have hpos : 0 < ns.length := by
      cases ns
      · exact absurd rfl h0
      · simp
    have hn1 : ∀ j u, (cellsOf ns)[j]? = some u → w.drew.cell? ((⟨g, 0, none⟩ : Addr).add j) = some u := fun j u hu => by
      rcases HS.out with ⟨e, -⟩ | ⟨b, off, c, e, q2, q3, q4, q5⟩
      · cases e
      · simp at e
        obtain ⟨⟨rfl, rfl⟩, -⟩ := e
        rw [add_plain]; exact q5 j u hu
    have HN := hide hn1
    clear hn1
    go_enter Try.func12, Try.ntmps12
    go_wp2
    go_region_law ((refine step_append_lies _ (by rfl) (.const (.slice none 0 0)) (.tmp 12) 30 (by rfl) w.heap.size 51 i0 nt0.v 9 72 Try.underlying30 hi hz0 hz1 hz2 (by rfl) (by decide) (.slice none 0 0) 0 [] (by rfl) (World.ownsRow_nil _ _ _ _) ⟨g, 0, none⟩ ns.length cp (cellsOf ns) (by rfl) (cells_len ns) HN.out (cells_cell ns) hpos (by unfold maxLen; omega) (by omega) (Nat.le_refl _) _ rfl ?_; intro g2 cap w2 hown hgrow hat hlt; have hb2 := below_of_none hgrow; have q0 : w2.cell? ⟨P, 0, none⟩ = some (.int .i64 (d : Int)) := cell_next hb2 hP (show w.drew.cell? ⟨P, 0, none⟩ = _ from c0)))
    all_goals
      have hBl : Below w.heap.size w w2 := (below_drew0 (Below.refl w.heap.size w)).trans hb2
      have hlen0 : 0 + ns.length = ns.length := Nat.zero_add _
      rw [hlen0, List.nil_append] at hown
      replace hown := hide hown
      try rw [hlen0]
      clear hlen0
      go_wp2
      go_ret
      exact copy_end hd hle rfl hBl hown.out _ rfl
theorem rcopy_end {w w2 : World} {d : Nat} {v2 : Value} {ns : List Nt} (hd : d ≤ 16) (hle : ns.length ≤ d) (b : Below (w.heap.size + 1) (w.alloc (.cells #[.int .i64 (d : Int), .slice none 0 0] 32)) w2) (ho : w2.ownsRow (w.heap.size + 1) 51 9 v2 ns.length (cellsOf ns)) : CopyOf w d ns (.returned (.pointer (some ⟨w.heap.size, 0, none⟩))) (w2.setCell ⟨w.heap.size, 1, none⟩ v2) := by
  have hs : w.heap.size + 1 ≤ w2.heap.size := by have := b.size; simp at this; omega
  have b0 : Below w.heap.size w w2 := ((Below.refl w.heap.size w).alloc (Nat.le_refl _) _).trans (b.mono (by omega))
  have fP : Fr (fun k => k = w.heap.size) w2 (w2.setCell ⟨w.heap.size, 1, none⟩ v2) := (Fr.refl (fun k => k = w.heap.size) w2).setCell (p := ⟨w.heap.size, 1, none⟩) (fun _ => rfl) _
  have c0 : w2.cell? ⟨w.heap.size, 0, none⟩ = some (.int .i64 (d : Int)) := (b.cell (p := ⟨w.heap.size, 0, none⟩) (by simp)).trans (by simp [go_sem])
  have c1 : w2.cell? ⟨w.heap.size, 1, none⟩ = some (.slice none 0 0) := (b.cell (p := ⟨w.heap.size, 1, none⟩) (by simp)).trans (by simp [go_sem])
  have f1 : w2.frozen? ⟨w.heap.size, 1, none⟩ = false := (b.frozen (p := ⟨w.heap.size, 1, none⟩) (by simp)).trans (World.frozen?_alloc_new _ _ _ _)
  refine ⟨w.heap.size, v2, rfl, ⟨by simp [World.setCell]; omega, (setCell_cell_other (by simp)).trans c0, World.cell?_setCell_same' _ _ _ (by rw [c1]; rfl), by simpa [World.frozen?_setCell] using f1, ow_mono (ownsRow_fr ho fP (fun k hk e => by have := (ho.lt k hk).1; omega)) (Nat.zero_le _), fun e => by have := (ho.lt _ e).1; omega, hle, hd⟩, fun k hk => ?_, b0.setCell (by show w.heap.size ≤ w.heap.size; omega) _⟩
  rcases hk with hk | hk
  · omega
  · have := (ho.lt k hk).1; omega
set_option maxHeartbeats 4000000 in
theorem rcopy_any {R d : Nat} {v : Value} {ns : List Nt} (w : World) (h : La w R d v ns) : Calls Try.prog 14 #[.pointer (some ⟨R, 0, none⟩)] w (CopyOf w d ns) := by
  obtain ⟨i0, hi, hz0, hz1, hz2⟩ := info_parts info51
  have c0 := h.c0
  have c1 := h.c1
  have hd := h.d16
  have hle := h.le
  have hP := h.hP
  have hn0 : ¬ w.heap.size = R := by omega
  have hf := h.form
  have HS := hide (show Src (w.alloc (.cells #[.int .i64 (d : Int), .slice none 0 0] 32)).drew v ns from (h.src.fr (((Fr.refl (fun _ => False) w).alloc _).drew) (fun _ _ => id)))
  clear h
  by_cases h0 : ns = []
  · subst h0
    rcases hf with ⟨rfl, -⟩ | ⟨g, cp, rfl, -, -, -⟩
    all_goals
      go_enter Try.func14, Try.ntmps14
      go_wp2
      go_region_law ((refine step_append_src0 (by rfl) (.tmp 14) (.tmp 18) (by rfl) _ (by rfl) (by rfl) HS.out ?_; intro w2 hb2; have q1 : w2.cell? ⟨w.heap.size, 1, none⟩ = some (.slice none 0 0) := cell_next hb2 (by simp) (by simp [go_sem]); have q2 : w2.frozen? ⟨w.heap.size, 1, none⟩ = false := (hb2.frozen (p := ⟨w.heap.size, 1, none⟩) (by simp)).trans (by simp [go_sem])))
      all_goals
        have hBl : Below (w.heap.size + 1) (w.alloc (.cells #[.int .i64 (d : Int), .slice none 0 0] 32)) w2 := (below_drew0 (Below.refl (w.heap.size + 1) _)).trans (hb2.mono (by simp))
        go_wp2
        go_ret
        exact rcopy_end hd (by simp) hBl (World.ownsRow_nil _ _ _ _)
  · rcases hf with ⟨-, e⟩ | ⟨g, cp, rfl, k1, k2, k3⟩
    · exact absurd e h0
    have hpos : 0 < ns.length := by
      cases ns
      · exact absurd rfl h0
      · simp
    have hn1 : ∀ j u, (cellsOf ns)[j]? = some u → (w.alloc (.cells #[.int .i64 (d : Int), .slice none 0 0] 32)).drew.cell? ((⟨g, 0, none⟩ : Addr).add j) = some u := fun j u hu => by
      rcases HS.out with ⟨e, -⟩ | ⟨b, off, c, e, q2, q3, q4, q5⟩
      · cases e
      · simp at e
        obtain ⟨⟨rfl, rfl⟩, -⟩ := e
        rw [add_plain]; exact q5 j u hu
    have HN := hide hn1
    clear hn1
    go_enter Try.func14, Try.ntmps14
    go_wp2
    go_region_law ((refine step_append_lies _ (by rfl) (.tmp 14) (.tmp 18) 30 (by rfl) (w.heap.size + 1) 51 i0 nt0.v 9 72 Try.underlying30 hi hz0 hz1 hz2 (by rfl) (by decide) (.slice none 0 0) 0 [] (by rfl) (World.ownsRow_nil _ _ _ _) ⟨g, 0, none⟩ ns.length cp (cellsOf ns) (by rfl) (cells_len ns) HN.out (cells_cell ns) hpos (by unfold maxLen; omega) (by omega) (by simp) _ rfl ?_; intro g2 cap w2 hown hgrow hat hlt; have hb2 := below_of_none hgrow; have q1 : w2.cell? ⟨w.heap.size, 1, none⟩ = some (.slice none 0 0) := cell_next hb2 (by simp) (by simp [go_sem]); have q2 : w2.frozen? ⟨w.heap.size, 1, none⟩ = false := (hb2.frozen (p := ⟨w.heap.size, 1, none⟩) (by simp)).trans (by simp [go_sem])))
    all_goals
      have hBl : Below (w.heap.size + 1) (w.alloc (.cells #[.int .i64 (d : Int), .slice none 0 0] 32)) w2 := (below_drew0 (Below.refl (w.heap.size + 1) _)).trans (hb2.mono (by simp))
      have hlen0 : 0 + ns.length = ns.length := Nat.zero_add _
      rw [hlen0, List.nil_append] at hown
      replace hown := hide hown
      try rw [hlen0]
      clear hlen0
      go_wp2
      go_ret
      exact rcopy_end hd hle hBl hown.out
end Go.Proofs.Ytopfbmgmpihcnaa
