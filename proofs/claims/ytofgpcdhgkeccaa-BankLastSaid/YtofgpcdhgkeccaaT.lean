/- Copy, walked. -/
import Derived.Test.YtofgpcdhgkeccaaS
import Derived.WalkKit
import Derived.WalkSpells
import Derived.ProofKit
import Derived.Outline
import Derived.Handy
import Derived.RowKit3
import Derived.BigQuiet
import Derived.Deep.QuietTactic
import Derived.Deep.RegionHeld3
import Derived.Deep.Draws
import Derived.Deep.RegionLaw
import Derived.RegionTactic
import Derived.BigRegion
import Derived.IntWalk
import Derived.LoopTactic
import Derived.OwnWalk
import Derived.Laws.AppendOwn
import Derived.Laws.OwnMore
import Derived.Laws.MakeOwn
import Derived.Laws.Pointers
import Derived.Maps.AppendAt
import Derived.Deep.AppendLies
import Derived.Below
namespace Go.Proofs.Ytofgpcdhgkeccaa
open Go.RowKit
set_option linter.unusedVariables false
set_option maxRecDepth 100000


/-- What the round of Copy holds on to. -/
def CS (K j nb n0 : Nat) (vk u : Value) (r s : Int) (W : World) : Prop :=
  W.cell? ⟨K + 1, 7, none⟩ = some vk ∧ W.cell? ⟨nb, 0, none⟩ = some (.int .i64 r) ∧ W.cell? ⟨nb, 1, none⟩ = some (.int .i64 s) ∧ W.cell? ⟨nb, 2, none⟩ = some u ∧ W.cell? ⟨K, j * 3, none⟩ = some (valAt W K (j * 3)) ∧ W.cell? ⟨K, j * 3 + 1, none⟩ = some (valAt W K (j * 3 + 1)) ∧ W.cell? ⟨K, j * 3 + 2, none⟩ = some (valAt W K (j * 3 + 2)) ∧ W.frozen? ⟨K, j * 3, none⟩ = false ∧ W.frozen? ⟨K, j * 3 + 1, none⟩ = false ∧ W.frozen? ⟨K, j * 3 + 2, none⟩ = false ∧ K + 1 < nb ∧ nb < W.heap.size
theorem CS.next {K j nb n0 : Nat} {vk u : Value} {r s : Int} {W w' : World} (h : CS K j nb n0 vk u r s W) (f : Below W.heap.size W w') : CS K j nb n0 vk u r s w' := by
  obtain ⟨a1, a2, a3, a4, a5, a6, a7, a8, a9, b1, b2, b3⟩ := h
  have fz : ∀ o, w'.frozen? ⟨K, o, none⟩ = W.frozen? ⟨K, o, none⟩ := fun o => f.frozen (p := ⟨K, o, none⟩) (show K < _ by omega)
  exact ⟨cell_next f (by omega) a1, cell_next f b3 a2, cell_next f b3 a3, cell_next f b3 a4, valAt_of (cell_next f (by omega) a5), valAt_of (cell_next f (by omega) a6), valAt_of (cell_next f (by omega) a7), (fz _).trans a8, (fz _).trans a9, (fz _).trans b1, b2, Nat.lt_of_lt_of_le b3 f.size⟩
theorem set3 {w : World} {K i : Nat} {x y z u v t : Value} (h0 : w.cell? ⟨K, i, none⟩ = some x) (h1 : w.cell? ⟨K, i + 1, none⟩ = some y) (h2 : w.cell? ⟨K, i + 2, none⟩ = some z) :
    (((w.setCell ⟨K, i, none⟩ u).setCell ⟨K, i + 1, none⟩ v).setCell ⟨K, i + 2, none⟩ t).cell? ⟨K, i, none⟩ = some u ∧ (((w.setCell ⟨K, i, none⟩ u).setCell ⟨K, i + 1, none⟩ v).setCell ⟨K, i + 2, none⟩ t).cell? ⟨K, i + 1, none⟩ = some v ∧ (((w.setCell ⟨K, i, none⟩ u).setCell ⟨K, i + 1, none⟩ v).setCell ⟨K, i + 2, none⟩ t).cell? ⟨K, i + 2, none⟩ = some t := by
  have s0 : (w.setCell ⟨K, i, none⟩ u).cell? ⟨K, i, none⟩ = some u := World.cell?_setCell_same' _ _ _ (by rw [h0]; rfl)
  have s1 : (w.setCell ⟨K, i, none⟩ u).cell? ⟨K, i + 1, none⟩ = some y := (setCell_cell_other (by simp)).trans h1
  have s2 : (w.setCell ⟨K, i, none⟩ u).cell? ⟨K, i + 2, none⟩ = some z := (setCell_cell_other (by simp)).trans h2
  have t1 : ((w.setCell ⟨K, i, none⟩ u).setCell ⟨K, i + 1, none⟩ v).cell? ⟨K, i + 1, none⟩ = some v := World.cell?_setCell_same' _ _ _ (by rw [s1]; rfl)
  have t2 : ((w.setCell ⟨K, i, none⟩ u).setCell ⟨K, i + 1, none⟩ v).cell? ⟨K, i + 2, none⟩ = some z := (setCell_cell_other (by simp)).trans s2
  exact ⟨(setCell_cell_other (by simp)).trans ((setCell_cell_other (by simp)).trans s0), (setCell_cell_other (by simp)).trans t1, World.cell?_setCell_same' _ _ _ (by rw [t2]; rfl)⟩
theorem CS.set {K j nb n0 : Nat} {vk u : Value} {r s : Int} {W : World} (h : CS K j nb n0 vk u r s W) (x y z : Value) : CS K j nb n0 vk u r s (((W.setCell ⟨K, j * 3, none⟩ x).setCell ⟨K, j * 3 + 1, none⟩ y).setCell ⟨K, j * 3 + 2, none⟩ z) := by
  obtain ⟨a1, a2, a3, a4, a5, a6, a7, a8, a9, b1, b2, b3⟩ := h
  have ne : ∀ {p o : Nat}, p ≠ K → (((W.setCell ⟨K, j * 3, none⟩ x).setCell ⟨K, j * 3 + 1, none⟩ y).setCell ⟨K, j * 3 + 2, none⟩ z).cell? ⟨p, o, none⟩ = W.cell? ⟨p, o, none⟩ := by
    intro p o hne
    rw [setCell_cell_other (by intro e; injection e with e1 e2; exact hne e1), setCell_cell_other (by intro e; injection e with e1 e2; exact hne e1), setCell_cell_other (by intro e; injection e with e1 e2; exact hne e1)]
  obtain ⟨t0, t1, t2⟩ := set3 (u := x) (v := y) (t := z) a5 a6 a7
  exact ⟨(ne (by omega)).trans a1, (ne (by omega)).trans a2, (ne (by omega)).trans a3, (ne (by omega)).trans a4, valAt_of t0, valAt_of t1, valAt_of t2, by simpa [World.frozen?_setCell] using a8, by simpa [World.frozen?_setCell] using a9, by simpa [World.frozen?_setCell] using b1, b2, by simpa [World.setCell] using b3⟩
theorem below_of_none {a b : World} (h : a.grownBy b none) : Below a.heap.size a b := ⟨h.os, h.tape, h.output, h.size, fun k hk => h.block k hk (by simp)⟩
theorem step_append_nil {P : Program} {w : World} {ops : Array Oper} {o : Oper} {a : Act} {K : Act → World → Prop} {Q : Exit → Act → World → Prop} {E : Prop} (hgd : o.guard = none) (s x : Operand) (t : TypeId)
    (ho : o.op = .call { callee := .builtin .append, args := #[s, x], argTypes := #[t, t] })
    (e : TypeId) (i : TypeInfo) (size : Nat) (ht : P.underlying t = some (.slice e)) (hi : P.info? e = some i) (hsize : i.size = size) (hs : a.eval s = .slice none 0 0) (hx : a.eval x = .slice none 0 0)
    (h : ∀ w', Below w.heap.size w w' → K (a.put o.dst (.slice none 0 0)) w') : if Region.wanted o (yielded ops a.tmps) = true then Oper.wp P o a w K Q else E := by
  have hw : Region.wanted o (yielded ops a.tmps) = true := by simp [Region.wanted, hgd]
  rw [if_pos hw]
  have hr := run_append_owned_none (P := P) w 0 t o.type e i size ht hi (.slice none 0 0) 0 [] (World.ownsRow_nil _ _ _ _)
  unfold Oper.wp execOp
  simp only [ho, resolve, invoke, builtin, Sem.run_bind, Sem.run_pure, Result.andThen_ok, List.map_toArray, List.map_cons, List.map_nil, hs, hx, hr]
  exact h w (Below.refl _ _)
def CRel (q : Cfg) (M K : Nat) (L : Nat → Nat) (φ : Nat → Int) (w : World) (v : Value) (wr : World) : Prop :=
  ∃ (k : Nat) (V : Nat → Value) (m : Nat → Nat) (xs : Nat → List Value), k ≤ q.G ∧ v = .int .i64 k ∧ Own wr q (w.heap.size + 1) w.heap.size ∧ Bk wr q.G (w.heap.size + 2) w.heap.size V m xs ∧ (∀ j, j < k → m j = cntL q.G q.n j ∧ xs j = rowOf φ q.G j (m j) ∧ (m j = 0 → V j = .slice none 0 0)) ∧ Mem wr q M K L φ ∧ Below w.heap.size w wr
set_option maxHeartbeats 8000000 in
theorem copy_any {q : Cfg} {M K : Nat} {L : Nat → Nat} {φ : Nat → Int} (w : World) (hT : Mem w q M K L φ) :
    Calls Try.prog 12 #[.pointer (some ⟨M, 0, none⟩)] w fun r w' => ∃ M2 K2 L2, r = .returned (.pointer (some ⟨M2, 0, none⟩)) ∧ Mem w' q M2 K2 L2 φ ∧ (∀ k, Mem.S q M2 K2 L2 k → w.heap.size ≤ k) ∧ Below w.heap.size w w' := by
  obtain ⟨i0, hi, hz0, hz1, hz2⟩ := info_parts info74
  obtain ⟨i1, hi1, hy0, hy1, hy2⟩ := info_parts info36
  have h32 := q.n32
  have hG1 := q.G1
  have hG4 := q.G4
  have hmk : ∀ W : World, (Instr.makeSlice 67 (.int .i64 (q.G : Int)) (.int .i64 (q.G : Int))).run Try.prog W = .ok (.slice (some ⟨W.heap.size, 0, none⟩) q.G q.G) (W.alloc (.cells (madeCells #[.int .i64 0, .int .i64 0, .slice none 0 0] (q.G * 3)) 74)) := fun W => by
    have h := run_make_rowN (P := Try.prog) 67 74 i0 (.agg #[.int .i64 0, .int .i64 0, .slice none 0 0]) Try.underlying67 hi hz0 .i64 .i64 q.G q.G (Nat.le_refl _) (by rw [hz2]; omega) (by omega) W
    rw [hz1] at h
    exact h
  have hMl := hT.hM
  have hKl := hT.hK
  have HT := hide hT
  have c0 := hT.c0
  have c1 := hT.c1
  have c2 := hT.c2
  have c3 := hT.c3
  have c4 := hT.c4
  have c5 := hT.c5
  have c6 := hT.c6
  have c7 := hT.c7
  clear hT
  go_enter Try.func12, Try.ntmps12
  go_wp2
  go_region
  have hO0 := hide (own_new (w.alloc (.cells (madeCells #[.int .i64 0, .int .i64 0, .slice none 0 0] (q.G * 3)) 74)) q w.heap.size 69)
  have hK0 := hide ((bk_new w q.G (w.heap.size + 2) 74).next ((Below.refl _ _).alloc (Nat.le_refl _) (.cells #[.int .i64 q.a, .int .i64 q.b, .int .i64 q.c, .int .i64 q.d, .int .i64 q.e, .int .i64 q.f, .int .i64 q.g, .slice (some ⟨w.heap.size, 0, none⟩) q.G q.G] 69)))
  go_wp2
  go_loopw [25] (fun v25 wr => CRel q M K L φ w v25 wr) (fun v25 _ => q.G - (intOf v25).toNat)
  case atStart =>
    refine ⟨0, _, _, _, Nat.zero_le _, rfl, ?_, hK0.out.next (below_drew0 (Below.refl _ _)), fun j hj => by omega, mem_drew ((HT.out.alloc _).alloc _), below_drew0 (((Below.refl _ _).alloc (Nat.le_refl _) _).alloc (by simp) _)⟩
    have e : (w.alloc (.cells (madeCells #[.int .i64 0, .int .i64 0, .slice none 0 0] (q.G * 3)) 74)).heap.size = w.heap.size + 1 := by simp
    rw [← e]; exact hO0.out
  case round =>
    obtain ⟨k, V, m, xs, hk, rfl, hO, hBk, hms, hTr, hB⟩ := hrel
    have RO := hide hO
    have RK := hide hBk
    have RS := hide hms
    have RT := hide hTr
    have hBs := hB.size
    clear hO hBk hms c0 c1 c2 c3 c4 c5 c6 c7
    by_cases hlt : k < q.G
    · have KL := hide hlt
      obtain ⟨⟨r0, a0⟩, ⟨s0, b0⟩, -, -⟩ := hTr.cnt k hlt
      obtain ⟨mk, mk32, hmk2, hrow⟩ := hTr.row k hlt
      have HMK := hide hmk2
      clear hTr hmk2
      rcases hrow with ⟨hm0, d0⟩ | ⟨hm0, cp, hcp, hcm, d0⟩
      · have hb3 := (Below.refl wr.heap.size wr).alloc (Nat.le_refl _) (.cells #[.int .i64 r0, .int .i64 s0, .slice none 0 0] 74)
        have hs0 := hide (show CS w.heap.size k wr.heap.size 0 (.slice (some ⟨w.heap.size, 0, none⟩) q.G q.G) (.slice none 0 0) r0 s0 (wr.alloc (.cells #[.int .i64 r0, .int .i64 s0, .slice none 0 0] 74)) from by
          have R := RK.out.next hb3
          have lt := RO.out.1
          refine ⟨cell_next hb3 lt RO.out.2.2.2.2.2.2.2.2, by simp [go_sem], by simp [go_sem], by simp [go_sem], ?_, ?_, ?_, (R.cnt k hlt).2.2.1, (R.cnt k hlt).2.2.2.1, (R.cnt k hlt).2.2.2.2, lt, by simp⟩
          · obtain ⟨r, e⟩ := (R.cnt k hlt).1; exact valAt_of e
          · obtain ⟨r, e⟩ := (R.cnt k hlt).2.1; exact valAt_of e
          · exact valAt_of (R.sl k hlt))
        have hown0 := World.ownsRow_nil (wr.alloc (.cells #[.int .i64 r0, .int .i64 s0, .slice none 0 0] 74)) (w.heap.size + 2) 36 2
        have hKM := RO.out.1
        have hcells : True := trivial
        go_wp2_with fail
        go_region_held3 (fun W => W.cell? ⟨w.heap.size + 1, 7, none⟩ = some (.slice (some ⟨w.heap.size, 0, none⟩) q.G q.G) ∧ W.cell? ⟨wr.heap.size, 0, none⟩ = some (.int .i64 r0) ∧ W.cell? ⟨wr.heap.size, 1, none⟩ = some (.int .i64 s0) ∧ W.cell? ⟨wr.heap.size, 2, none⟩ = some (.slice none 0 0) ∧ W.cell? ⟨w.heap.size, k * 3, none⟩ = some (valAt W w.heap.size (k * 3)) ∧ W.cell? ⟨w.heap.size, k * 3 + 1, none⟩ = some (valAt W w.heap.size (k * 3 + 1)) ∧ W.cell? ⟨w.heap.size, k * 3 + 2, none⟩ = some (valAt W w.heap.size (k * 3 + 2)) ∧ W.frozen? ⟨w.heap.size, k * 3, none⟩ = false ∧ W.frozen? ⟨w.heap.size, k * 3 + 1, none⟩ = false ∧ W.frozen? ⟨w.heap.size, k * 3 + 2, none⟩ = false ∧ w.heap.size + 1 < wr.heap.size ∧ wr.heap.size < W.heap.size)
          (first | assumption | exact hs0.out | exact CS.next (n0 := 0) hs0.out (below_drew0 (Below.refl _ _)) | exact CS.next (n0 := 0) (by assumption) (below_of_none hgrow) | exact CS.next (n0 := 0) (by assumption) hgrow | exact CS.set (n0 := 0) (by assumption) _ _ _)
          (((refine step_append_nil (by rfl) (.const (.slice none 0 0)) (.tmp 38) 70 (by rfl) 36 i1 2 Try.underlying70 hi1 hy1 (by rfl) (by rfl) ?_; intro w4 hgrow)))
        rename_i hHeld
        clear hHeld hs0
        have FA : Fr (fun _ => False) (wr.alloc (.cells #[.int .i64 r0, .int .i64 s0, .slice none 0 0] 74)) w4 := (Fr.refl (fun _ => False) _).drew.trans (Fr.of_below hgrow) (fun _ _ h => h)
        have FB : Fr (fun k => k = w.heap.size) w4 (((w4.setCell ⟨w.heap.size, k * 3, none⟩ (.int .i64 r0)).setCell ⟨w.heap.size, k * 3 + 1, none⟩ (.int .i64 s0)).setCell ⟨w.heap.size, k * 3 + 2, none⟩ (.slice none 0 0)) := (((Fr.refl (fun k => k = w.heap.size) _).setCell (p := ⟨w.heap.size, k * 3, none⟩) (fun _ => rfl) _).setCell (p := ⟨w.heap.size, k * 3 + 1, none⟩) (fun _ => rfl) _).setCell (p := ⟨w.heap.size, k * 3 + 2, none⟩) (fun _ => rfl) _
        have F4 := hide ((FA.mono (T := fun k => k = w.heap.size) (fun i _ h => h.elim)).trans FB (fun i _ h => h))
        have R3 := RK.out.next hb3
        have R4 := R3.kept FA id (fun _ _ _ _ => id)
        obtain ⟨⟨x0, p0⟩, ⟨x1, p1⟩, -⟩ := R4.cnt k hlt
        have s3 := set3 (u := .int .i64 r0) (v := .int .i64 s0) (t := .slice none 0 0) p0 p1 (R4.sl k hlt)
        have NB := hide (R3.put (c := 0) (ys := []) hlt FA id (fun _ _ _ _ => id) (World.ownsRow_nil _ _ _ _) (by simp [Value.ownBlock]) (fun g h => by simp [Value.ownBlock] at h) FB (fun o h1 h2 h3 => by rw [setCell_cell_other (by intro e; injection e with e1 e2; exact h3 e2), setCell_cell_other (by intro e; injection e with e1 e2; exact h2 e2), setCell_cell_other (by intro e; injection e with e1 e2; exact h1 e2)]) (fun o => by simp [World.frozen?_setCell]) r0 s0 s3.1 s3.2.1 s3.2.2)
        clear FA FB R3 R4 p0 p1 s3
        go_wp2
        go_roundw
        case rel =>
          refine ⟨k + 1, _, _, _, by omega, int_eq (by omega), ?_, NB.out, fun i hi => ?_, ?_, ?_⟩
          · exact (RO.out.kept (Fr.of_below (S := fun _ => False) hb3) id).kept F4.out (by omega)
          · by_cases e : i = k
            · subst e
              rw [upd_same, upd_same, upd_same]
              have hcm : mk = cntL q.G q.n i := by
                have h1 := fun p => (HMK.out p).trans (cnt_iff hG1 hG4 KL.out p).symm
                have a := h1 mk
                have b := h1 (cntL q.G q.n i)
                omega
              exact ⟨by rw [← hcm, hm0], by simp [rowOf], fun _ => rfl⟩
            · rw [upd_other _ e, upd_other _ e, upd_other _ e]
              exact RS.out i (by omega)
          · exact (RT.out.next hb3).kept F4.out (fun i hi e => by have := HT.out.S_lt i hi; omega)
          · exact hB.trans ((hb3.mono hBs).trans (F4.out.below (B := w.heap.size) (by simp; omega) (fun i hi h => by omega)))
        case measure => simp [intOf]; omega
      · have hb3 := (Below.refl wr.heap.size wr).alloc (Nat.le_refl _) (.cells #[.int .i64 r0, .int .i64 s0, .slice (some ⟨L k, 0, none⟩) mk cp] 74)
        have hs0 := hide (show CS w.heap.size k wr.heap.size 0 (.slice (some ⟨w.heap.size, 0, none⟩) q.G q.G) (.slice (some ⟨L k, 0, none⟩) mk cp) r0 s0 (wr.alloc (.cells #[.int .i64 r0, .int .i64 s0, .slice (some ⟨L k, 0, none⟩) mk cp] 74)) from by
          have R := RK.out.next hb3
          have lt := RO.out.1
          refine ⟨cell_next hb3 lt RO.out.2.2.2.2.2.2.2.2, by simp [go_sem], by simp [go_sem], by simp [go_sem], ?_, ?_, ?_, (R.cnt k hlt).2.2.1, (R.cnt k hlt).2.2.2.1, (R.cnt k hlt).2.2.2.2, lt, by simp⟩
          · obtain ⟨r, e⟩ := (R.cnt k hlt).1; exact valAt_of e
          · obtain ⟨r, e⟩ := (R.cnt k hlt).2.1; exact valAt_of e
          · exact valAt_of (R.sl k hlt))
        have hown0 := World.ownsRow_nil (wr.alloc (.cells #[.int .i64 r0, .int .i64 s0, .slice (some ⟨L k, 0, none⟩) mk cp] 74)) (w.heap.size + 2) 36 2
        have hKM := RO.out.1
        have hcells : ∀ i u, (rowOf φ q.G k mk)[i]? = some u → (wr.alloc (.cells #[.int .i64 r0, .int .i64 s0, .slice (some ⟨L k, 0, none⟩) mk cp] 74)).drew.cell? ((⟨L k, 0, none⟩ : Addr).add i) = some u := fun i u h => by
          have := RT.out.row_cells hlt HMK.out i u h
          rw [add_plain0] at this ⊢
          exact cell_next (below_drew0 hb3) (show L k < wr.heap.size from (RT.out.lns k 0 hlt ((HMK.out 0).1 hm0)).1) this
        go_wp2_with fail
        go_region_held3 (fun W => W.cell? ⟨w.heap.size + 1, 7, none⟩ = some (.slice (some ⟨w.heap.size, 0, none⟩) q.G q.G) ∧ W.cell? ⟨wr.heap.size, 0, none⟩ = some (.int .i64 r0) ∧ W.cell? ⟨wr.heap.size, 1, none⟩ = some (.int .i64 s0) ∧ W.cell? ⟨wr.heap.size, 2, none⟩ = some (.slice (some ⟨L k, 0, none⟩) mk cp) ∧ W.cell? ⟨w.heap.size, k * 3, none⟩ = some (valAt W w.heap.size (k * 3)) ∧ W.cell? ⟨w.heap.size, k * 3 + 1, none⟩ = some (valAt W w.heap.size (k * 3 + 1)) ∧ W.cell? ⟨w.heap.size, k * 3 + 2, none⟩ = some (valAt W w.heap.size (k * 3 + 2)) ∧ W.frozen? ⟨w.heap.size, k * 3, none⟩ = false ∧ W.frozen? ⟨w.heap.size, k * 3 + 1, none⟩ = false ∧ W.frozen? ⟨w.heap.size, k * 3 + 2, none⟩ = false ∧ w.heap.size + 1 < wr.heap.size ∧ wr.heap.size < W.heap.size)
          (first | assumption | exact hs0.out | exact CS.next (n0 := 0) hs0.out (below_drew0 (Below.refl _ _)) | exact CS.next (n0 := 0) (by assumption) (below_of_none hgrow) | exact CS.next (n0 := 0) (by assumption) hgrow | exact CS.set (n0 := 0) (by assumption) _ _ _)
          ((refine step_append_lies _ (by rfl) (.const (.slice none 0 0)) (.tmp 38) 70 (by rfl) (w.heap.size + 2) 36 i1 (.agg #[.int .i64 0, .int .i64 0]) 2 16 Try.underlying70 hi1 hy0 hy1 hy2 (by rfl) (by decide) (.slice none 0 0) 0 [] (by rfl) (World.ownsRow.drew hown0) ⟨L k, 0, none⟩ mk cp (rowOf φ q.G k mk) (by rfl) (rowOf_len _ _ _ _) hcells (rowOf_one _ _ _ _) (by omega) (by unfold maxLen; omega) (by omega) (by simp; omega) _ rfl ?_; intro g cap w4 hown4 hgrow hat hlt4))
        rename_i hHeld
        clear hHeld hs0
        have hgl : wr.heap.size + 1 ≤ g := by
          rcases hat with e | e
          · simp [Value.ownBlock] at e
          · simp at e; omega
        simp only [Nat.zero_add, List.nil_append] at hown4
        have FA : Fr (fun _ => False) (wr.alloc (.cells #[.int .i64 r0, .int .i64 s0, .slice (some ⟨L k, 0, none⟩) mk cp] 74)) w4 := (Fr.refl (fun _ => False) _).drew.trans (Fr.of_grown' (S := fun _ => False) hgrow (fun E hE _ => by simp [Value.ownBlock] at hE)) (fun _ _ h => h)
        have FB : Fr (fun k => k = w.heap.size) w4 (((w4.setCell ⟨w.heap.size, k * 3, none⟩ (.int .i64 r0)).setCell ⟨w.heap.size, k * 3 + 1, none⟩ (.int .i64 s0)).setCell ⟨w.heap.size, k * 3 + 2, none⟩ (.slice (some ⟨g, 0, none⟩) mk cap)) := (((Fr.refl (fun k => k = w.heap.size) _).setCell (p := ⟨w.heap.size, k * 3, none⟩) (fun _ => rfl) _).setCell (p := ⟨w.heap.size, k * 3 + 1, none⟩) (fun _ => rfl) _).setCell (p := ⟨w.heap.size, k * 3 + 2, none⟩) (fun _ => rfl) _
        have F4 := hide ((FA.mono (T := fun k => k = w.heap.size) (fun i _ h => h.elim)).trans FB (fun i _ h => h))
        have R3 := RK.out.next hb3
        have R4 := R3.kept FA id (fun _ _ _ _ => id)
        obtain ⟨⟨x0, p0⟩, ⟨x1, p1⟩, -⟩ := R4.cnt k hlt
        have s3 := set3 (u := .int .i64 r0) (v := .int .i64 s0) (t := .slice (some ⟨g, 0, none⟩) mk cap) p0 p1 (R4.sl k hlt)
        have NB := hide (R3.put (c := mk) (ys := _) hlt FA id (fun _ _ _ _ => id) hown4 (by simp [Value.ownBlock]; omega) (fun g' h => by simp [Value.ownBlock] at h; subst h; simp; omega) FB (fun o h1 h2 h3 => by rw [setCell_cell_other (by intro e; injection e with e1 e2; exact h3 e2), setCell_cell_other (by intro e; injection e with e1 e2; exact h2 e2), setCell_cell_other (by intro e; injection e with e1 e2; exact h1 e2)]) (fun o => by simp [World.frozen?_setCell]) r0 s0 s3.1 s3.2.1 s3.2.2)
        clear hown4 hgrow hat hlt4 FA FB R3 R4 p0 p1 s3
        go_wp2
        go_roundw
        case rel =>
          refine ⟨k + 1, _, _, _, by omega, int_eq (by omega), ?_, NB.out, fun i hi => ?_, ?_, ?_⟩
          · exact (RO.out.kept (Fr.of_below (S := fun _ => False) hb3) id).kept F4.out (by omega)
          · by_cases e : i = k
            · subst e
              rw [upd_same, upd_same, upd_same]
              have hcm : mk = cntL q.G q.n i := by
                have h1 := fun p => (HMK.out p).trans (cnt_iff hG1 hG4 KL.out p).symm
                have a := h1 mk
                have b := h1 (cntL q.G q.n i)
                omega
              exact ⟨hcm, rfl, fun e => by omega⟩
            · rw [upd_other _ e, upd_other _ e, upd_other _ e]
              exact RS.out i (by omega)
          · exact (RT.out.next hb3).kept F4.out (fun i hi e => by have := HT.out.S_lt i hi; omega)
          · exact hB.trans ((hb3.mono hBs).trans (F4.out.below (B := w.heap.size) (by simp; omega) (fun i hi h => by omega)))
        case measure => simp [intOf]; omega
    · obtain rfl : k = q.G := by omega
      clear hTr
      go_wp2
      go_ret
      have hVlt : ∀ i g, i < q.G → (V i).ownBlock = some g → w.heap.size + 2 ≤ g := fun i g hi e => ((RK.out.own i hi).lt g e).1
      have mem := Bk.mem (φ := φ) RO.out RK.out (by omega) (fun j hj e => by have := hVlt j _ hj e; omega) (fun j hj => (RS.out j hj).1) (fun j hj => (RS.out j hj).2.2) (fun j p t hj hp ht => by
        rw [(RS.out j hj).2.1]; exact rowOf_at _ _ _ _ _ _ hp ht)
      refine ⟨w.heap.size + 1, w.heap.size, _, rfl, mem.1, fun k hk => ?_, hB⟩
      rcases mem.2 k hk with e | e | e <;> omega
end Go.Proofs.Ytofgpcdhgkeccaa
