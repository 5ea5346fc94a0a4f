/- The reference of layer 9 (checker): its slices, its checker, New. -/
import Derived.Test.YtfikiophfphmbaaC1
import Derived.WalkKit
import Derived.WalkSpells
import Derived.ProofKit
import Derived.Outline
import Derived.Handy
import Derived.RowKit3
import Derived.BigQuiet
import Derived.Deep.QuietTactic
import Derived.Deep.RegionHeld3
import Derived.Deep.Draws
import Derived.Deep.RegionLaw
import Derived.RegionTactic
import Derived.BigRegion
import Derived.IntWalk
import Derived.LoopTactic
import Derived.OwnWalk
import Derived.Laws.AppendOwn
import Derived.Laws.OwnMore
import Derived.Laws.MakeOwn
import Derived.Laws.Pointers
import Derived.Maps.AppendAt
import Derived.Deep.AppendLies
import Derived.Below
namespace Go.Proofs.Ytfikiophfphmbaa
open Go.RowKit
set_option linter.unusedVariables false
set_option maxRecDepth 100000

theorem info3 : (Try.prog.info? 3).map (fun i => (i.zero, i.size, i.bytes)) = some (some (.int .i64 0), 1, 8) := by kernel_rfl
/-- A slice of numbers, wherever it begins in its block. -/
def Sl (w : World) (v : Value) (n : Nat) : Prop := (v = .slice none 0 0 ∧ n = 0) ∨ ∃ b off cap, v = .slice (some ⟨b, off, none⟩) n cap ∧ n ≤ cap ∧ cap ≤ maxLen ∧ b < w.heap.size ∧ (∀ j, j < n → ∃ x : Int, w.cell? ⟨b, off + j, none⟩ = some (.int .i64 x)) ∧ (∀ j, j < cap → (w.cell? ⟨b, off + j, none⟩).isSome = true) ∧ ∀ j, w.frozen? ⟨b, j, none⟩ = false
section
variable {w w' : World} {v : Value} {n : Nat}
theorem Sl.fr {S : Nat → Prop} (h : Sl w v n) (f : Fr S w w') (hS : ∀ k, v.ownBlock = some k → ¬ S k) : Sl w' v n := by
  rcases h with h | ⟨b, off, cap, rfl, h1, h2, h3, h4, h5, h6⟩
  · exact .inl h
  · have n := hS b rfl
    exact .inr ⟨b, off, cap, rfl, h1, h2, Nat.lt_of_lt_of_le h3 f.size, fun j hj => by rw [f.cell h3 n]; exact h4 j hj, fun j hj => by rw [f.cell h3 n]; exact h5 j hj, fun j => by rw [f.frozen h3 n]; exact h6 j⟩
theorem Sl.next (h : Sl w v n) (b : Below w.heap.size w w') : Sl w' v n := h.fr (Fr.of_below (S := fun _ => False) b) (fun _ _ => id)
theorem Sl.lt (h : Sl w v n) : ∀ k, v.ownBlock = some k → k < w.heap.size := by
  rcases h with ⟨rfl, -⟩ | ⟨b, off, cap, rfl, h1, h2, h3, h4, h5, h6⟩
  · intro k hk; cases hk
  · intro k hk; injection hk with hk; subst hk; exact h3
theorem Sl.len (h : Sl w v n) : n ≤ maxLen := by
  rcases h with ⟨rfl, rfl⟩ | ⟨b, off, cap, rfl, h1, h2, h3, h4, h5, h6⟩
  · exact Nat.zero_le _
  · exact Nat.le_trans h1 h2
theorem Sl.of_own {base : Nat} {xs : List Value} (h : w.ownsRow base 3 1 v n xs) (hx : ∀ u ∈ xs, ∃ x : Int, u = .int .i64 x) : Sl w v n := by
  rcases h.2 with ⟨h1, h2⟩ | ⟨g, cap, cur, rfl, hb, hg, hc, hm, hs, ht⟩
  · exact .inl ⟨h1, h2⟩
  · refine .inr ⟨g, 0, cap, rfl, hc, hm, (Array.getElem?_eq_some_iff.1 hg).1, fun j hj => ?_, fun j hj => ?_, fun j => h.frozenAt j⟩
    · have hl := h.1
      obtain ⟨x, hx⟩ := hx _ (List.getElem_mem (l := xs) (n := j) (by omega))
      rw [Nat.zero_add]
      exact ⟨x, (h.cellAt j (by omega)).trans (by rw [List.getElem?_eq_getElem (by omega), hx])⟩
    · rw [Nat.zero_add]
      simp [World.cell?, hg]
      omega
theorem sl_app (t ty : TypeId) (ht : Try.prog.underlying t = some (.slice 3)) (h : Sl w v n) (hn : n ≤ 1000) (A : Addr) (c : Nat) (x : Int) (hA : w.cell? A = some (.int .i64 x)) :
    ∃ g o cap w', (Builtin.append_ #[t, t] ty #[v, .slice (some A) 1 c]).run Try.prog w = .ok (.slice (some ⟨g, o, none⟩) (n + 1) cap) w' ∧ Sl w' (.slice (some ⟨g, o, none⟩) (n + 1) cap) (n + 1) ∧ Fr (fun k => v.ownBlock = some k) w w' ∧ (v.ownBlock = some g ∨ w.heap.size ≤ g) := by
  obtain ⟨i, hi, hz0, hz1, hz2⟩ := info_parts info3
  have hA' : ∀ j u, [Value.int .i64 x][j]? = some u → w.cell? (A.add j) = some u := by
    intro j u hu
    cases j with
    | zero => simp at hu; subst hu; simpa [Addr.add] using hA
    | succ j => simp at hu
  have h1 : ∀ u ∈ [Value.int .i64 x], u.oneCell' = true := by intro u hu; simp at hu; subst hu; rfl
  rcases h with ⟨rfl, rfl⟩ | ⟨b, off, cap, rfl, h1c, h2, h3, h4, h5, h6⟩
  · obtain ⟨v', w', hr, r1, r2, _⟩ := run_append_own (P := Try.prog) w w.heap.size t ty 3 i (.int .i64 0) 1 8 ht hi hz0 hz1 hz2 rfl (by decide) (.slice none 0 0) 0 [] (World.ownsRow_nil w _ 3 1) A 1 c [.int .i64 x] rfl hA' h1 (by unfold maxLen; omega) (by omega) (Nat.le_refl _)
    have hsl := Sl.of_own r1 (by intro u hu; simp at hu; exact ⟨x, hu⟩)
    rcases r1.2 with ⟨q1, q2⟩ | ⟨g, cap, cur, rfl, hb, hg, hc, hm, hs, ht⟩
    · simp at q2
    · exact ⟨g, 0, cap, w', hr, hsl, Fr.of_grown' r2 (fun E e _ => e), .inr hb⟩
  · by_cases hr : n + 1 ≤ cap
    · have hsz : i.size = 1 := hz1
      have hrun := run_append_room_cells (P := Try.prog) w t ty 3 i ht hi b off n cap A 1 c [.int .i64 x] (by simp [hsz]) hA' h1 hr (fun j hj => by
        have : j = 0 := by simpa using hj
        subst this
        rw [hsz, Nat.mul_one, Nat.add_zero]
        exact h5 n (by omega)) (fun j hj => h6 _)
      rw [hsz, Nat.mul_one] at hrun
      refine ⟨b, off, cap, _, hrun, ?_, ?_, .inl rfl⟩
      · have hsame : ∀ (W : World), Sl W (.slice (some ⟨b, off, none⟩) n cap) n → True := fun _ _ => trivial
        refine .inr ⟨b, off, cap, rfl, hr, h2, by simpa [World.setCells, World.setCell] using h3, fun j hj => ?_, fun j hj => ?_, fun j => by simpa [World.setCells, World.frozen?_setCell] using h6 j⟩
        · simp only [World.setCells]
          by_cases hjn : j = n
          · subst hjn
            exact ⟨x, World.cell?_setCell_same' _ _ _ (h5 j (by omega))⟩
          · rw [setCell_cell_other (by intro e; injection e; omega)]
            exact h4 j (by omega)
        · simp only [World.setCells]
          by_cases hjn : j = n
          · subst hjn
            rw [World.cell?_setCell_same' _ _ _ (h5 j (by omega))]; rfl
          · rw [setCell_cell_other (by intro e; injection e; omega)]
            exact h5 j hj
      · exact Fr.setCell (S := fun k => (Value.slice (some ⟨b, off, none⟩) n cap).ownBlock = some k) (Fr.refl _ w) (p := ⟨b, off + n, none⟩) (fun _ => rfl) (.int .i64 x)
    · have holds : ∀ j u, ((List.range n).map fun j => (w.cell? ⟨b, off + j, none⟩).getD undef)[j]? = some u → w.cell? ((⟨b, off, none⟩ : Addr).add j) = some u := by
        intro j u hu
        rw [add_plain]
        simp only [List.getElem?_map] at hu
        obtain ⟨k, hk, rfl⟩ := Option.map_eq_some_iff.1 hu
        have hkn : j < n := by have := (List.getElem?_eq_some_iff.1 hk).1; simpa using this
        obtain rfl : k = j := by simp [List.getElem?_range hkn] at hk; exact hk.symm
        obtain ⟨y, hy⟩ := h4 k hkn
        simp [hy]
      obtain ⟨v', w', hrun, r1, r2⟩ := run_append_arg_grows (P := Try.prog) w t ty 3 i (.int .i64 0) 1 8 ht hi hz0 hz1 hz2 rfl (by decide) ⟨b, off, none⟩ n cap _ (by simp) holds A 1 c [.int .i64 x] rfl hA' (by omega) (by unfold maxLen; omega) (by omega)
      have hsl := Sl.of_own r1 (by
        intro u hu
        rcases List.mem_append.1 hu with hu | hu
        · obtain ⟨k, hk, rfl⟩ := List.mem_map.1 hu
          obtain ⟨y, hy⟩ := h4 k (by simpa using hk)
          exact ⟨y, by simp [hy]⟩
        · simp at hu; exact ⟨x, hu⟩)
      rcases r1.2 with ⟨q1, q2⟩ | ⟨g, cap', cur, rfl, hb, hg, hc, hm, hs, ht⟩
      · omega
      · exact ⟨g, 0, cap', w', hrun, hsl, Fr.of_grown' r2 (fun E e _ => by cases e), .inr hb⟩
end
theorem wpList_sl_app {w : World} {ops : Array Oper} {rest : List Oper} {o : Oper} {a : Act} {Q : Exit → Act → World → Prop} (hgd : o.guard = none) (s x : Operand) (t : TypeId)
    (ho : o.op = .call { callee := .builtin .append, args := #[s, x], argTypes := #[t, t] })
    (ht : Try.prog.underlying t = some (.slice 3)) (v : Value) (n : Nat) (A : Addr) (c : Nat) (z : Int) (hs : a.eval s = v) (hsl : Sl w v n) (hn : n ≤ 1000) (hx : a.eval x = .slice (some A) 1 c) (hA : w.cell? A = some (.int .i64 z))
    (h : ∀ g o' cap w', Sl w' (.slice (some ⟨g, o', none⟩) (n + 1) cap) (n + 1) → Fr (fun k => v.ownBlock = some k) w w' → (v.ownBlock = some g ∨ w.heap.size ≤ g) → wpList Try.prog ops Q rest (a.put o.dst (.slice (some ⟨g, o', none⟩) (n + 1) cap)) w') : wpList Try.prog ops Q (o :: rest) a w := by
  refine wpList_plain hgd fun K hK => ?_
  obtain ⟨g, o', cap, w', hr, h2, h3, h5⟩ := sl_app t o.type ht hsl hn A c z hA
  unfold Oper.wp execOp
  simp only [ho, resolve, invoke, builtin, Sem.run_bind, Sem.run_pure, Result.andThen_ok, List.map_toArray, List.map_cons, List.map_nil, hs, hx, hr]
  exact hK _ _ (h g o' cap w' h2 h3 h5)
theorem step_sl_app {w : World} {ops : Array Oper} {o : Oper} {a : Act} {K : Act → World → Prop} {Q : Exit → Act → World → Prop} {E : Prop} (hgd : o.guard = none) (s x : Operand) (t : TypeId)
    (ho : o.op = .call { callee := .builtin .append, args := #[s, x], argTypes := #[t, t] })
    (ht : Try.prog.underlying t = some (.slice 3)) (v : Value) (n : Nat) (A : Addr) (c : Nat) (z : Int) (hs : a.eval s = v) (hsl : Sl w v n) (hn : n ≤ 1000) (hx : a.eval x = .slice (some A) 1 c) (hA : w.cell? A = some (.int .i64 z))
    (h : ∀ g o' cap w', Sl w' (.slice (some ⟨g, o', none⟩) (n + 1) cap) (n + 1) → Fr (fun k => v.ownBlock = some k) w w' → (v.ownBlock = some g ∨ w.heap.size ≤ g) → K (a.put o.dst (.slice (some ⟨g, o', none⟩) (n + 1) cap)) w') :
    if Region.wanted o (yielded ops a.tmps) = true then Oper.wp Try.prog o a w K Q else E := by
  have hw : Region.wanted o (yielded ops a.tmps) = true := by simp [Region.wanted, hgd]
  rw [if_pos hw]
  obtain ⟨g, o', cap, w', hr, h2, h3, h5⟩ := sl_app t o.type ht hsl hn A c z hA
  unfold Oper.wp execOp
  simp only [ho, resolve, invoke, builtin, Sem.run_bind, Sem.run_pure, Result.andThen_ok, List.map_toArray, List.map_cons, List.map_nil, hs, hx, hr]
  exact h g o' cap w' h2 h3 h5
/-- The reference's checker at block R: what its slices tell does not count. -/
structure Rk (w : World) (R en gs : Nat) (G O : Value) (n : Nat) (wk at_ : Int) (st : Bool) : Prop where
  hR : R < w.heap.size
  c0 : w.cell? ⟨R, 0, none⟩ = some (.int .i64 (en : Int))
  c1 : w.cell? ⟨R, 1, none⟩ = some (.int .i64 (gs : Int))
  c2 : w.cell? ⟨R, 2, none⟩ = some G
  c3 : w.cell? ⟨R, 3, none⟩ = some O
  c4 : w.cell? ⟨R, 4, none⟩ = some (.int .i64 wk)
  c5 : w.cell? ⟨R, 5, none⟩ = some (.int .i64 at_)
  c6 : w.cell? ⟨R, 6, none⟩ = some (.bool st)
  f : ∀ t, t < 7 → w.frozen? ⟨R, t, none⟩ = false
  g : Sl w G n
  o : Sl w O n
  nG : G.ownBlock ≠ some R
  nO : O.ownBlock ≠ some R
  dis : ∀ k, G.ownBlock = some k → O.ownBlock ≠ some k
  e1 : 1 ≤ en
  e8 : en ≤ 8
  le : n ≤ en
  g16 : gs ≤ 16
  wb : wk < 16
def Rk.S (R : Nat) (G O : Value) (k : Nat) : Prop := k = R ∨ G.ownBlock = some k ∨ O.ownBlock = some k
section
variable {w w' : World} {R en gs n : Nat} {G O : Value} {wk at_ : Int} {st : Bool}
theorem Rk.fr {S : Nat → Prop} (h : Rk w R en gs G O n wk at_ st) (f : Fr S w w') (hS : ∀ k, Rk.S R G O k → ¬ S k) : Rk w' R en gs G O n wk at_ st := by
  have n := hS R (.inl rfl)
  exact ⟨Nat.lt_of_lt_of_le h.hR f.size, (f.cell h.hR n).trans h.c0, (f.cell h.hR n).trans h.c1, (f.cell h.hR n).trans h.c2, (f.cell h.hR n).trans h.c3, (f.cell h.hR n).trans h.c4, (f.cell h.hR n).trans h.c5, (f.cell h.hR n).trans h.c6, fun t ht => (f.frozen h.hR n).trans (h.f t ht), h.g.fr f (fun k hk => hS k (.inr (.inl hk))), h.o.fr f (fun k hk => hS k (.inr (.inr hk))), h.nG, h.nO, h.dis, h.e1, h.e8, h.le, h.g16, h.wb⟩
theorem Rk.next (h : Rk w R en gs G O n wk at_ st) (b : Below w.heap.size w w') : Rk w' R en gs G O n wk at_ st := h.fr (Fr.of_below (S := fun _ => False) b) (fun _ _ => id)
theorem Rk.lt (h : Rk w R en gs G O n wk at_ st) : ∀ k, Rk.S R G O k → k < w.heap.size := by
  rintro k (rfl | hk | hk)
  · exact h.hR
  · exact h.g.lt k hk
  · exact h.o.lt k hk
/-- A cell of its own written: what each cell is then. -/
theorem Rk.set (h : Rk w R en gs G O n wk at_ st) (i : Nat) (hi : i < 7) (u : Value) : (w.setCell ⟨R, i, none⟩ u).cell? ⟨R, i, none⟩ = some u := by
  have : (w.cell? ⟨R, i, none⟩).isSome = true := by
    match i, hi with
    | 0, _ => rw [h.c0]; rfl
    | 1, _ => rw [h.c1]; rfl
    | 2, _ => rw [h.c2]; rfl
    | 3, _ => rw [h.c3]; rfl
    | 4, _ => rw [h.c4]; rfl
    | 5, _ => rw [h.c5]; rfl
    | 6, _ => rw [h.c6]; rfl
  exact World.cell?_setCell_same' _ _ _ this
theorem rk_other (w : World) (R i j : Nat) (u : Value) (hne : j ≠ i) : (w.setCell ⟨R, i, none⟩ u).cell? ⟨R, j, none⟩ = w.cell? ⟨R, j, none⟩ := setCell_cell_other (by intro e; injection e; omega)
theorem rk_fr (w : World) (R i : Nat) (u : Value) : Fr (fun k => k = R) w (w.setCell ⟨R, i, none⟩ u) := (Fr.refl (fun k => k = R) w).setCell (p := ⟨R, i, none⟩) (fun _ => rfl) _
theorem Rk.setWk (h : Rk w R en gs G O n wk at_ st) (x : Int) (hx : x < 16) : Rk (w.setCell ⟨R, 4, none⟩ (.int .i64 x)) R en gs G O n x at_ st := by
  have f := rk_fr w R 4 (.int .i64 x)
  have s := fun j hj => rk_other w R 4 j (.int .i64 x) hj
  exact ⟨Nat.lt_of_lt_of_le h.hR f.size, (s 0 (by omega)).trans h.c0, (s 1 (by omega)).trans h.c1, (s 2 (by omega)).trans h.c2, (s 3 (by omega)).trans h.c3, h.set 4 (by omega) _, (s 5 (by omega)).trans h.c5, (s 6 (by omega)).trans h.c6, fun t ht => by simpa [World.frozen?_setCell] using h.f t ht, h.g.fr f (fun k hk e => h.nG (by rw [hk, e])), h.o.fr f (fun k hk e => h.nO (by rw [hk, e])), h.nG, h.nO, h.dis, h.e1, h.e8, h.le, h.g16, hx⟩
theorem Rk.setAt (h : Rk w R en gs G O n wk at_ st) (x : Int) : Rk (w.setCell ⟨R, 5, none⟩ (.int .i64 x)) R en gs G O n wk x st := by
  have f := rk_fr w R 5 (.int .i64 x)
  have s := fun j hj => rk_other w R 5 j (.int .i64 x) hj
  exact ⟨Nat.lt_of_lt_of_le h.hR f.size, (s 0 (by omega)).trans h.c0, (s 1 (by omega)).trans h.c1, (s 2 (by omega)).trans h.c2, (s 3 (by omega)).trans h.c3, (s 4 (by omega)).trans h.c4, h.set 5 (by omega) _, (s 6 (by omega)).trans h.c6, fun t ht => by simpa [World.frozen?_setCell] using h.f t ht, h.g.fr f (fun k hk e => h.nG (by rw [hk, e])), h.o.fr f (fun k hk e => h.nO (by rw [hk, e])), h.nG, h.nO, h.dis, h.e1, h.e8, h.le, h.g16, h.wb⟩
theorem Rk.setSt (h : Rk w R en gs G O n wk at_ st) (x : Bool) : Rk (w.setCell ⟨R, 6, none⟩ (.bool x)) R en gs G O n wk at_ x := by
  have f := rk_fr w R 6 (.bool x)
  have s := fun j hj => rk_other w R 6 j (.bool x) hj
  exact ⟨Nat.lt_of_lt_of_le h.hR f.size, (s 0 (by omega)).trans h.c0, (s 1 (by omega)).trans h.c1, (s 2 (by omega)).trans h.c2, (s 3 (by omega)).trans h.c3, (s 4 (by omega)).trans h.c4, (s 5 (by omega)).trans h.c5, h.set 6 (by omega) _, fun t ht => by simpa [World.frozen?_setCell] using h.f t ht, h.g.fr f (fun k hk e => h.nG (by rw [hk, e])), h.o.fr f (fun k hk e => h.nO (by rw [hk, e])), h.nG, h.nO, h.dis, h.e1, h.e8, h.le, h.g16, h.wb⟩
/-- Both slices written. -/
theorem Rk.setGO {G' O' : Value} {m : Nat} (h : Rk w R en gs G O n wk at_ st) (hg : Sl w G' m) (ho : Sl w O' m) (nG : G'.ownBlock ≠ some R) (nO : O'.ownBlock ≠ some R) (dis : ∀ k, G'.ownBlock = some k → O'.ownBlock ≠ some k) (le : m ≤ en) : Rk ((w.setCell ⟨R, 2, none⟩ G').setCell ⟨R, 3, none⟩ O') R en gs G' O' m wk at_ st := by
  have f : Fr (fun k => k = R) w ((w.setCell ⟨R, 2, none⟩ G').setCell ⟨R, 3, none⟩ O') := (rk_fr w R 2 G').trans (rk_fr _ R 3 O') (fun _ _ e => e)
  have s := fun j (h2 : j ≠ 2) (h3 : j ≠ 3) => (rk_other (w.setCell ⟨R, 2, none⟩ G') R 3 j O' h3).trans (rk_other w R 2 j G' h2)
  have i3 : ((w.setCell ⟨R, 2, none⟩ G').cell? ⟨R, 3, none⟩).isSome = true := by rw [rk_other w R 2 3 G' (by omega), h.c3]; rfl
  exact ⟨Nat.lt_of_lt_of_le h.hR f.size, (s 0 (by omega) (by omega)).trans h.c0, (s 1 (by omega) (by omega)).trans h.c1, (rk_other _ R 3 2 O' (by omega)).trans (h.set 2 (by omega) _), World.cell?_setCell_same' _ _ _ i3, (s 4 (by omega) (by omega)).trans h.c4, (s 5 (by omega) (by omega)).trans h.c5, (s 6 (by omega) (by omega)).trans h.c6, fun t ht => by simpa [World.frozen?_setCell] using h.f t ht, hg.fr f (fun k hk e => nG (by rw [hk, e])), ho.fr f (fun k hk e => nO (by rw [hk, e])), nG, nO, dis, h.e1, h.e8, le, h.g16, h.wb⟩
end
/-- What a call of the reference's leaves. -/
def Rent (R en gs : Nat) (G O : Value) (w w' : World) : Prop := ∃ G' O' n wk at_ st, Rk w' R en gs G' O' n wk at_ st ∧ Fr (Rk.S R G O) w w' ∧ ∀ k, Rk.S R G' O' k → Rk.S R G O k ∨ w.heap.size ≤ k
theorem rent_same {w w' : World} {R en gs n : Nat} {G O : Value} {wk at_ : Int} {st : Bool} (h : Rk w R en gs G O n wk at_ st) (b : Below w.heap.size w w') : Rent R en gs G O w w' := ⟨_, _, _, _, _, _, h.next b, Fr.of_below b, fun _ e => .inl e⟩
theorem rent_r {w w' : World} {R en gs n : Nat} {G O : Value} {wk at_ : Int} {st : Bool} (h : Rk w' R en gs G O n wk at_ st) (f : Fr (fun k => k = R) w w') : Rent R en gs G O w w' := ⟨_, _, _, _, _, _, h, f.mono (fun _ _ e => .inl e), fun _ e => .inl e⟩
theorem rnew_yes (en gs : Nat) (h1 : 1 ≤ en) (h2 : en ≤ 8) (h3 : gs ≤ 16) (w : World) : Calls Try.prog 21 #[.int .i64 en, .int .i64 gs] w fun r w' => ∃ R, r = .returned (.pointer (some ⟨R, 0, none⟩)) ∧ Rk w' R en gs (.slice none 0 0) (.slice none 0 0) 0 (-1) 0 false ∧ w.heap.size ≤ R ∧ Below w.heap.size w w' := by
  go_enter Try.func21, Try.ntmps21
  go_wp2
  go_ret
  exact ⟨w.heap.size, rfl, ⟨by simp, by simp [go_sem], by simp [go_sem], by simp [go_sem], by simp [go_sem], by simp [go_sem], by simp [go_sem], by simp [go_sem], fun t ht => World.frozen?_alloc_new _ _ _ _, .inl ⟨rfl, rfl⟩, .inl ⟨rfl, rfl⟩, by simp [Value.ownBlock], by simp [Value.ownBlock], by simp [Value.ownBlock], h1, h2, Nat.zero_le _, h3, by omega⟩, Nat.le_refl _, (Below.refl _ _).alloc (Nat.le_refl _) _⟩
end Go.Proofs.Ytfikiophfphmbaa
