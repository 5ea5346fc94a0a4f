/- All, walked. -/
import Derived.Test.YtopfbmgmpihcnaaC
import Derived.WalkKit
import Derived.WalkSpells
import Derived.ProofKit
import Derived.Outline
import Derived.Handy
import Derived.RowKit3
import Derived.BigQuiet
import Derived.Deep.QuietTactic
import Derived.Deep.RegionHeld3
import Derived.Deep.Draws
import Derived.Deep.RegionLaw
import Derived.RegionTactic
import Derived.BigRegion
import Derived.IntWalk
import Derived.LoopTactic
import Derived.OwnWalk
import Derived.Laws.AppendOwn
import Derived.Laws.OwnMore
import Derived.Laws.MakeOwn
import Derived.Laws.Pointers
import Derived.Maps.AppendAt
import Derived.Deep.AppendLies
import Derived.Below
namespace Go.Proofs.Ytopfbmgmpihcnaa
open Go.RowKit
set_option linter.unusedVariables false
set_option maxRecDepth 100000


theorem step_append_src0 {w : World} {ops : Array Oper} {o : Oper} {a : Act} {K : Act → World → Prop} {Q : Exit → Act → World → Prop} {E : Prop} (hgd : o.guard = none) (s x : Operand)
    (ho : o.op = .call { callee := .builtin .append, args := #[s, x], argTypes := #[30, 30] }) (sl : Value) (hs : a.eval s = .slice none 0 0) (hx : a.eval x = sl) (hsrc : Src w sl [])
    (h : ∀ w', Below w.heap.size w w' → K (a.put o.dst (.slice none 0 0)) w') : if Region.wanted o (yielded ops a.tmps) = true then Oper.wp Try.prog o a w K Q else E := by
  have hw : Region.wanted o (yielded ops a.tmps) = true := by simp [Region.wanted, hgd]
  rw [if_pos hw]
  obtain ⟨i, hi, hz0, hz1, hz2⟩ := info_parts info51
  rcases hsrc with ⟨rfl, -⟩ | ⟨b, off, c, rfl, -⟩
  · have hr := run_append_owned_none (P := Try.prog) w 0 30 o.type 51 i 9 Try.underlying30 hi (.slice none 0 0) 0 [] (World.ownsRow_nil _ _ _ _)
    unfold Oper.wp execOp
    simp only [ho, resolve, invoke, builtin, Sem.run_bind, Sem.run_pure, Result.andThen_ok, List.map_toArray, List.map_cons, List.map_nil, hs, hx, hr]
    exact h w (Below.refl _ _)
  · obtain ⟨v', w', hr, h2, h3, h4, h5⟩ := run_append_own_at (P := Try.prog) w 0 30 o.type 51 i nt0.v 9 72 Try.underlying30 hi hz0 hz1 hz2 rfl (by decide) (.slice none 0 0) 0 [] (World.ownsRow_nil _ _ _ _) ⟨b, off, none⟩ 0 c [] rfl (fun j u hu => by simp at hu) (fun u hu => by simp at hu) (by unfold maxLen; omega) (by omega) (Nat.zero_le _)
    obtain rfl := h4.2 ⟨rfl, rfl⟩
    unfold Oper.wp execOp
    simp only [ho, resolve, invoke, builtin, Sem.run_bind, Sem.run_pure, Result.andThen_ok, List.map_toArray, List.map_cons, List.map_nil, List.length_nil, hs, hx, hr]
    exact h w' (below_of_none h3)
/-- A box at B holds a slice of notes. -/
structure AllAt (w : World) (B : Nat) (v : Value) (ns : List Nt) : Prop where
  hB : B < w.heap.size
  c : w.cell? ⟨B, 0, none⟩ = some v
  src : Src w v ns
  lt : ∀ k, v.ownBlock = some k → k < w.heap.size
theorem AllAt.fr {w w' : World} {B : Nat} {v : Value} {ns : List Nt} {S : Nat → Prop} (h : AllAt w B v ns) (f : Fr S w w') (hB : ¬ S B) (hS : ∀ k, v.ownBlock = some k → ¬ S k) : AllAt w' B v ns :=
  ⟨Nat.lt_of_lt_of_le h.hB f.size, (f.cell h.hB hB).trans h.c, h.src.fr f hS, fun k hk => Nat.lt_of_lt_of_le (h.lt k hk) f.size⟩
theorem AllAt.next {w w' : World} {B : Nat} {v : Value} {ns : List Nt} (h : AllAt w B v ns) (hb : Below w.heap.size w w') : AllAt w' B v ns := h.fr (Fr.of_below (S := fun _ => False) hb) id (fun _ _ => id)
theorem own_src {w : World} {v : Value} {ns : List Nt} (h : w.ownsRow 0 51 9 v ns.length (cellsOf ns)) : Src w v ns := by
  rcases h.2 with ⟨h1, h2⟩ | ⟨g, cap, cur, rfl, hb, hg, hc, hm, _⟩
  · exact .inl ⟨h1, List.eq_nil_of_length_eq_zero h2⟩
  · refine .inr ⟨g, 0, cap, rfl, hc, hm, fun _ => (Array.getElem?_eq_some_iff.1 hg).1, fun j u hu => ?_⟩
    have hj : j < ns.length * 9 := by rw [← cells_len]; exact (List.getElem?_eq_some_iff.1 hu).1
    rw [Nat.zero_add]
    exact (h.cellAt j hj).trans hu
def FnOf (B : Nat) : Value := .func (.func 22) #[] #[.pointer (some ⟨B, 0, none⟩)]
set_option maxHeartbeats 4000000 in
theorem all_any {P d : Nat} {v : Value} {ns : List Nt} (w : World) (h : La w P d v ns) :
    Calls Try.prog 13 #[.pointer (some ⟨P, 0, none⟩)] w fun r w' => ∃ v', r = .returned (.func (.func 22) #[] #[.pointer (some ⟨w.heap.size, 0, none⟩)]) ∧ AllAt w' w.heap.size v' ns ∧ Below w.heap.size w w' ∧ ∀ k, v'.ownBlock = some k → w.heap.size < k := by
  obtain ⟨i0, hi, hz0, hz1, hz2⟩ := info_parts info51
  have c1 := h.c1
  have hP := h.hP
  have hne : ¬ w.heap.size = P := by omega
  have H1 := hide (h.next ((Below.refl _ _).alloc (Nat.le_refl _) (.cells #[.slice none 0 0] 30)))
  have hlen := h.le
  have hd := h.d16
  have HF := hide h.form
  clear h
  by_cases h0 : ns = []
  · subst h0
    have hsrc := hide (show Src (w.alloc (.cells #[.slice none 0 0] 30)).drew v [] from H1.out.src.fr ((Fr.refl (fun _ => False) _).drew) (fun _ _ => id))
    rcases HF.out with ⟨rfl, -⟩ | ⟨g0, cp0, rfl, k1, k2, k3⟩
    all_goals
      go_enter Try.func13, Try.ntmps13
      go_wp2
      go_region_law ((refine step_append_src0 (by rfl) (.tmp 6) (.tmp 10) (by rfl) _ (by rfl) (by rfl) hsrc.out ?_; intro w2 hb2; have q1 : w2.cell? ⟨w.heap.size, 0, none⟩ = some (.slice none 0 0) := cell_next hb2 (by simp) (by simp [go_sem]); have q2 : w2.frozen? ⟨w.heap.size, 0, none⟩ = false := (hb2.frozen (p := ⟨w.heap.size, 0, none⟩) (by simp)).trans (by simp [go_sem])))
      all_goals
        have hlt2 : w.heap.size < w2.heap.size := Nat.lt_of_lt_of_le (by simp) hb2.size
        have hBl : Below w.heap.size w w2 := ((Below.refl w.heap.size w).alloc (Nat.le_refl _) _).trans ((below_drew0 (Below.refl _ _)).trans (hb2.mono (by simp)))
        go_wp2
        go_ret
        exact ⟨.slice none 0 0, rfl, ⟨by simpa [World.setCell] using hlt2, World.cell?_setCell_same' _ _ _ (by rw [q1]; rfl), .inl ⟨rfl, rfl⟩, fun k hk => by simp [Value.ownBlock] at hk⟩, hBl.setCell (p := ⟨w.heap.size, 0, none⟩) (Nat.le_refl _) _, fun k hk => by simp [Value.ownBlock] at hk⟩
  · have hpos : 0 < ns.length := by cases ns; exact absurd rfl h0; simp
    rcases HF.out with ⟨-, e⟩ | ⟨g0, cp0, rfl, k1, k2, k3⟩
    · exact absurd e h0
    have hn1 : ∀ j u, (cellsOf ns)[j]? = some u → (w.alloc (.cells #[.slice none 0 0] 30)).drew.cell? ((⟨g0, 0, none⟩ : Addr).add j) = some u := fun j u hu => by
      rcases H1.out.src with ⟨e, -⟩ | ⟨b, off, c, e, q2, q3, q4, q5⟩
      · cases e
      · simp at e
        obtain ⟨⟨rfl, rfl⟩, -⟩ := e
        rw [add_plain]; exact q5 j u hu
    have HN := hide hn1
    clear hn1
    go_enter Try.func13, Try.ntmps13
    go_wp2
    go_region_law ((refine step_append_lies _ (by rfl) (.tmp 6) (.tmp 10) 30 (by rfl) 0 51 i0 nt0.v 9 72 Try.underlying30 hi hz0 hz1 hz2 (by rfl) (by decide) (.slice none 0 0) 0 [] (by rfl) (World.ownsRow_nil _ _ _ _) ⟨g0, 0, none⟩ ns.length cp0 (cellsOf ns) (by rfl) (cells_len ns) HN.out (cells_cell ns) hpos (by unfold maxLen; omega) (by omega) (Nat.zero_le _) _ rfl ?_; intro g cap w2 hown hgrow hat hlt; have hb2 := below_of_none hgrow; have q1 : w2.cell? ⟨w.heap.size, 0, none⟩ = some (.slice none 0 0) := cell_next hb2 (by simp) (by simp [go_sem]); have q2 : w2.frozen? ⟨w.heap.size, 0, none⟩ = false := (hb2.frozen (p := ⟨w.heap.size, 0, none⟩) (by simp)).trans (by simp [go_sem])))
    all_goals
      have hlt2 : w.heap.size < w2.heap.size := Nat.lt_of_lt_of_le (by simp) hb2.size
      have hBl : Below w.heap.size w w2 := ((Below.refl w.heap.size w).alloc (Nat.le_refl _) _).trans ((below_drew0 (Below.refl _ _)).trans (hb2.mono (by simp)))
      have hgl : w.heap.size < g := by
        rcases hat with e | e
        · simp [Value.ownBlock] at e
        · rw [e]; simp
      have hlen0 : 0 + ns.length = ns.length := Nat.zero_add _
      rw [hlen0, List.nil_append] at hown
      have ff : Fr (fun k => k = w.heap.size) w2 (w2.setCell ⟨w.heap.size, 0, none⟩ (.slice (some ⟨g, 0, none⟩) ns.length cap)) := (Fr.refl (fun k => k = w.heap.size) w2).setCell (p := ⟨w.heap.size, 0, none⟩) (fun _ => rfl) _
      replace hown := hide hown
      try rw [hlen0]
      clear hlen0
      go_wp2
      go_ret
      refine ⟨.slice (some ⟨g, 0, none⟩) ns.length cap, rfl, ⟨by simpa [World.setCell] using hlt2, World.cell?_setCell_same' _ _ _ (by rw [q1]; rfl), (own_src hown.out).fr ff (fun k hk e => by simp [Value.ownBlock] at hk; omega), fun k hk => ?_⟩, hBl.setCell (p := ⟨w.heap.size, 0, none⟩) (Nat.le_refl _) _, fun k hk => by simp [Value.ownBlock] at hk; omega⟩
      simp [Value.ownBlock] at hk
      have := (hown.out.lt g rfl).2
      simp [World.setCell]; omega
end Go.Proofs.Ytopfbmgmpihcnaa
