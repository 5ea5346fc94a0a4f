/- New, walked. -/
import Derived.Test.YtofgpcdhgkeccaaQ
import Derived.WalkKit
import Derived.WalkSpells
import Derived.ProofKit
import Derived.Outline
import Derived.Handy
import Derived.RowKit3
import Derived.BigQuiet
import Derived.Deep.QuietTactic
import Derived.Deep.RegionHeld3
import Derived.Deep.Draws
import Derived.Deep.RegionLaw
import Derived.RegionTactic
import Derived.BigRegion
import Derived.IntWalk
import Derived.LoopTactic
import Derived.OwnWalk
import Derived.Laws.AppendOwn
import Derived.Laws.OwnMore
import Derived.Laws.MakeOwn
import Derived.Laws.Pointers
import Derived.Maps.AppendAt
import Derived.Deep.AppendLies
import Derived.Below
namespace Go.Proofs.Ytofgpcdhgkeccaa
open Go.RowKit
set_option linter.unusedVariables false
set_option maxRecDepth 100000


def valAt (W : World) (R i : Nat) : Value := (W.cell? ⟨R, i, none⟩).getD (.bool false)
theorem valAt_of {W : World} {R i : Nat} {v : Value} (h : W.cell? ⟨R, i, none⟩ = some v) : W.cell? ⟨R, i, none⟩ = some (valAt W R i) := by simp [valAt, h]
theorem valAt_is {W : World} {R i : Nat} {v : Value} (h : W.cell? ⟨R, i, none⟩ = some v) : valAt W R i = v := by simp [valAt, h]
theorem sx_fr {W w' : World} {K i : Nat} {v : Value} {S : Nat → Prop} (h : W.cell? ⟨K + 1, 7, none⟩ = some v ∧ W.cell? ⟨K, i, none⟩ = some (valAt W K i) ∧ W.frozen? ⟨K, i, none⟩ = false ∧ K + 1 < W.heap.size) (f : Fr S W w') (hM : ¬ S (K + 1)) (hK : ¬ S K) : w'.cell? ⟨K + 1, 7, none⟩ = some v ∧ w'.cell? ⟨K, i, none⟩ = some (valAt w' K i) ∧ w'.frozen? ⟨K, i, none⟩ = false ∧ K + 1 < w'.heap.size :=
  ⟨(f.cell h.2.2.2 hM).trans h.1, valAt_of ((f.cell (by omega) hK).trans h.2.1), (f.frozen (by omega) hK).trans h.2.2.1, Nat.lt_of_lt_of_le h.2.2.2 f.size⟩
theorem sx_set {W : World} {K i : Nat} {v : Value} (u : Value) (h : W.cell? ⟨K + 1, 7, none⟩ = some v ∧ W.cell? ⟨K, i, none⟩ = some (valAt W K i) ∧ W.frozen? ⟨K, i, none⟩ = false ∧ K + 1 < W.heap.size) : (W.setCell ⟨K, i, none⟩ u).cell? ⟨K + 1, 7, none⟩ = some v ∧ (W.setCell ⟨K, i, none⟩ u).cell? ⟨K, i, none⟩ = some (valAt (W.setCell ⟨K, i, none⟩ u) K i) ∧ (W.setCell ⟨K, i, none⟩ u).frozen? ⟨K, i, none⟩ = false ∧ K + 1 < (W.setCell ⟨K, i, none⟩ u).heap.size :=
  ⟨(setCell_cell_other (by intro e; injection e with e1 e2; omega)).trans h.1, valAt_of (v := u) (World.cell?_setCell_same' _ _ _ (by rw [h.2.1]; rfl)), by simpa [World.frozen?_setCell] using h.2.2.1, by simpa [World.setCell] using h.2.2.2⟩
theorem news2 (w : World) (x y : Value) (t : TypeId) : ∀ j u, [x, y][j]? = some u → (w.alloc (.cells #[x, y] t)).cell? ((⟨w.heap.size, 0, none⟩ : Addr).add j) = some u := by
  intro j u hj
  match j, hj with
  | 0, hj =>
    simp at hj
    subst hj
    simp [Addr.add, go_sem]
  | 1, hj =>
    simp at hj
    subst hj
    simp [Addr.add, go_sem]
theorem box_fr {w w' : World} {p : Nat} {a b c d e f g : Int} {S : Nat → Prop} (h : Box w p a b c d e f g) (k : Fr S w w') (hS : ¬ S p) : Box w' p a b c d e f g := by
  obtain ⟨hp, h0, h1, h2, h3, h4, h5, h6⟩ := h
  exact ⟨Nat.lt_of_lt_of_le hp k.size, (k.cell hp hS).trans h0, (k.cell hp hS).trans h1, (k.cell hp hS).trans h2, (k.cell hp hS).trans h3, (k.cell hp hS).trans h4, (k.cell hp hS).trans h5, (k.cell hp hS).trans h6⟩
def NRel (q : Cfg) (K : Nat) (w : World) (v : Value) (wr : World) : Prop :=
  ∃ (k : Nat) (V : Nat → Value) (m : Nat → Nat) (xs : Nat → List Value), k ≤ q.n ∧ v = .int .i64 k ∧ Own wr q (K + 1) K ∧ Bk wr q.G (K + 2) K V m xs ∧ (∀ j, j < q.G → m j = cntL q.G k j ∧ xs j = List.replicate (2 * m j) (.int .i64 0) ∧ (m j = 0 → V j = .slice none 0 0)) ∧ Below w.heap.size w wr ∧ Box wr w.heap.size q.a q.b q.c q.d q.e q.f q.g
set_option maxHeartbeats 8000000 in
theorem new_yes (q : Cfg) (w : World) : Calls Try.prog 9 #[q.v] w fun r w' => ∃ M K L, r = .returned (.tuple #[.pointer (some ⟨M, 0, none⟩), .int .i64 0]) ∧ Mem w' q M K L (fun _ => 0) ∧ (∀ k, Mem.S q M K L k → w.heap.size ≤ k) ∧ Below w.heap.size w w' := by
  obtain ⟨i0, hi, hz0, hz1, hz2⟩ := info_parts info74
  obtain ⟨i1, hi1, hy0, hy1, hy2⟩ := info_parts info36
  have h32 := q.n32
  have hG1 := q.G1
  have hG4 := q.G4
  have hmk : ∀ W : World, (Instr.makeSlice 67 (.int .i64 q.g) (.int .i64 q.g)).run Try.prog W = .ok (.slice (some ⟨W.heap.size, 0, none⟩) q.G q.G) (W.alloc (.cells (madeCells #[.int .i64 0, .int .i64 0, .slice none 0 0] (q.G * 3)) 74)) := fun W => by
    have h := run_make_rowN (P := Try.prog) 67 74 i0 (.agg #[.int .i64 0, .int .i64 0, .slice none 0 0]) Try.underlying67 hi hz0 .i64 .i64 q.G q.G (Nat.le_refl _) (by rw [hz2]; omega) (by omega) W
    rw [hz1] at h
    rw [q.hg]
    exact h
  have HQ := hide q.hg
  go_enter Try.func9, Try.ntmps9
  go_wp2_with fail
  refine (check_yes _ _ _ _ _ _ _ q.ok _).mono ?_
  rintro r w1 ⟨rfl, hb⟩
  have hsz := hb.size
  simp at hsz
  have HB := hide (below_alloc hb)
  have HX := hide ((Box.new w q.a q.b q.c q.d q.e q.f q.g 23).next hb)
  obtain ⟨qz, c0, c1, c2, c3, c4, c5, c6⟩ := HX.out
  clear hb
  go_wp2
  go_region
  have hO0 := hide (own_new (w1.alloc (.cells (madeCells #[.int .i64 0, .int .i64 0, .slice none 0 0] (q.G * 3)) 74)) q w1.heap.size 69)
  have hK0 := hide ((bk_new w1 q.G (w1.heap.size + 2) 74).next ((Below.refl _ _).alloc (Nat.le_refl _) (.cells #[.int .i64 q.a, .int .i64 q.b, .int .i64 q.c, .int .i64 q.d, .int .i64 q.e, .int .i64 q.f, .int .i64 q.g, .slice (some ⟨w1.heap.size, 0, none⟩) q.G q.G] 69)))
  have hb0 := hide (((HB.out.alloc HB.out.size (.cells (madeCells #[.int .i64 0, .int .i64 0, .slice none 0 0] (q.G * 3)) 74)).alloc (by simp; omega) (.cells #[.int .i64 q.a, .int .i64 q.b, .int .i64 q.c, .int .i64 q.d, .int .i64 q.e, .int .i64 q.f, .int .i64 q.g, .slice (some ⟨w1.heap.size, 0, none⟩) q.G q.G] 69)))
  have hx0 := hide ((Box.new w q.a q.b q.c q.d q.e q.f q.g 23))
  go_wp2_with fail
  refine (lines_in q _).mono ?_
  rintro r w2 ⟨rfl, hb2⟩
  have hb2' : Below (((w1.alloc (.cells (madeCells #[.int .i64 0, .int .i64 0, .slice none 0 0] (q.G * 3)) 74)).alloc (.cells #[.int .i64 q.a, .int .i64 q.b, .int .i64 q.c, .int .i64 q.d, .int .i64 q.e, .int .i64 q.f, .int .i64 q.g, .slice (some ⟨w1.heap.size, 0, none⟩) q.G q.G] 69))).heap.size (((w1.alloc (.cells (madeCells #[.int .i64 0, .int .i64 0, .slice none 0 0] (q.G * 3)) 74)).alloc (.cells #[.int .i64 q.a, .int .i64 q.b, .int .i64 q.c, .int .i64 q.d, .int .i64 q.e, .int .i64 q.f, .int .i64 q.g, .slice (some ⟨w1.heap.size, 0, none⟩) q.G q.G] 69))) w2 := ⟨hb2.os, hb2.tape, hb2.output, hb2.size, hb2.block⟩
  have HW2 := hide (below_step hb0.out (Nat.le_trans HB.out.size (by simp; omega)) hb2')
  have O2 := hide (hO0.out.kept (Fr.of_below (S := fun _ => False) hb2') id)
  have K2 := hide (hK0.out.next hb2')
  have HX2 := hide (((HX.out.alloc _).alloc _).next hb2')
  clear hb2
  go_wp2_with fail
  go_loopw [22] (fun v22 wr => NRel q w1.heap.size w v22 wr) (fun v22 _ => q.n - (intOf v22).toNat)
  case atStart =>
    refine ⟨0, _, _, _, Nat.zero_le _, rfl, ?_, K2.out, fun j hj => ⟨(cnt_zero hG1 hG4 hj).symm, rfl, fun _ => rfl⟩, HW2.out, HX2.out⟩
    have e : (w1.alloc (.cells (madeCells #[.int .i64 0, .int .i64 0, .slice none 0 0] (q.G * 3)) 74)).heap.size = w1.heap.size + 1 := by simp
    rw [← e]; exact O2.out
  case round =>
    obtain ⟨k, V, m, xs, hk, rfl, hO, hBk, hms, hB, hX⟩ := hrel
    have RO := hide hO
    have RK := hide hBk
    have RX := hide hX
    obtain ⟨xl, x0, x1, x2, x3, x4, x5, x6⟩ := hX
    have RS := hide hms
    have hBs := hB.size
    clear hO hBk hms
    by_cases hlt : k < q.n
    · have KL := hide hlt
      obtain ⟨j, hj⟩ : ∃ j, k % q.G = j := ⟨_, rfl⟩
      have hjG : j < q.G := by rw [← hj]; exact Nat.mod_lt _ (by omega)
      have HJ := hide hj
      clear hj
      go_wp2_with fail
      refine (bank_in q k KL.out _).mono ?_
      rintro r w3 ⟨rfl, hb3⟩
      rw [HJ.out]
      go_wp2_with fail
      have m7 : w3.cell? ⟨w1.heap.size + 1, 7, none⟩ = some (.slice (some ⟨w1.heap.size, 0, none⟩) q.G q.G) := cell_next hb3 RO.out.1 RO.out.2.2.2.2.2.2.2.2
      have mV := (RK.out.next hb3).sl j hjG
      have mF := ((RK.out.next hb3).cnt j hjG).2.2.2.2
      have mlt : w1.heap.size + 1 < w3.heap.size := Nat.lt_of_lt_of_le RO.out.1 hb3.size
      have hown := (RK.out.next hb3).own j hjG
      have hm32 : m j ≤ 32 := by rw [(RS.out j hjG).1]; exact Nat.le_trans (cnt_le hG1 hG4 hjG) (by omega)
      have hVlt : ∀ i g, i < q.G → (V i).ownBlock = some g → w1.heap.size + 2 ≤ g := fun i g hi e => ((RK.out.own i hi).lt g e).1
      have hnM : ¬ (V j).ownBlock = some (w1.heap.size + 1) := fun e => by have := hVlt j _ hjG e; omega
      have hnX : ¬ (V j).ownBlock = some w.heap.size := fun e => by have := hVlt j _ hjG e; have := HB.out.size; omega
      have hnK := RK.out.nK j hjG
      have hbase3 : w1.heap.size + 2 ≤ w3.heap.size := Nat.le_trans RO.out.1 hb3.size
      have R3 := hide (RK.out.next hb3)
      have hB3 := below_step hB hBs hb3
      have hl7 : (w3.alloc (.cells #[.int .i64 0, .int .i64 0] 36)).cell? ⟨w1.heap.size + 1, 7, none⟩ = some (.slice (some ⟨w1.heap.size, 0, none⟩) q.G q.G) := cell_next ((Below.refl _ _).alloc (Nat.le_refl _) _) mlt m7
      have hlV : (w3.alloc (.cells #[.int .i64 0, .int .i64 0] 36)).cell? ⟨w1.heap.size, j * 3 + 2, none⟩ = some (V j) := cell_next ((Below.refl _ _).alloc (Nat.le_refl _) _) (by omega) mV
      have hlF : (w3.alloc (.cells #[.int .i64 0, .int .i64 0] 36)).frozen? ⟨w1.heap.size, j * 3 + 2, none⟩ = false := (((Below.refl _ _).alloc (Nat.le_refl _) _).frozen (p := ⟨w1.heap.size, j * 3 + 2, none⟩) (show w1.heap.size < w3.heap.size by omega)).trans mF
      go_region_law ((refine step_append_lies _ (by rfl) (.tmp 43) (.tmp 45) 70 (by rfl) (w1.heap.size + 2) 36 i1 (.agg #[.int .i64 0, .int .i64 0]) 2 16 Try.underlying70 hi1 hy0 hy1 hy2 (by rfl) (by decide) (V j) (m j) (xs j) (by rfl) (World.ownsRow.alloc (World.ownsRow.drew hown) _) ⟨w3.heap.size, 0, none⟩ 1 1 [.int .i64 0, .int .i64 0] (by rfl) (by rfl) (news2 w3.drew _ _ 36) (by simp [Value.oneCell']) (by omega) (by unfold maxLen; omega) (by omega) (by simp; omega) _ rfl ?_; intro g cap w4 hown4 hgrow hat hlt4; have f41 := (Fr.of_grown' (S := fun k => (V j).ownBlock = some k) hgrow (fun E hE _ => hE)); have f4a := (f41.cell (o := 7) (by simp; omega) hnM).trans (show _ = _ from hl7); have f4b := (f41.cell (o := j * 3 + 2) (by simp; omega) hnK).trans (show _ = _ from hlV); have f4c := (f41.frozen (o := j * 3 + 2) (by simp; omega) hnK).trans (show _ = _ from hlF); clear f41))
      all_goals
        clear hown hl7 hlV hlF m7 mV mF f4a f4b f4c
        have F4 := hide ((((Fr.refl (fun k => (V j).ownBlock = some k ∨ k = w1.heap.size) w3).alloc (.cells #[.int .i64 0, .int .i64 0] 36)).drew.trans (Fr.of_grown' (S := fun k => (V j).ownBlock = some k ∨ k = w1.heap.size) hgrow (fun E hE _ => .inl hE)) (fun i _ h => h)).setCell (p := ⟨w1.heap.size, j * 3 + 2, none⟩) (fun _ => .inr rfl) (.slice (some ⟨g, 0, none⟩) (m j + 1) cap))
        have hat' : (V j).ownBlock = some g ∨ ((w3.alloc (.cells #[.int .i64 0, .int .i64 0] 36)).drew).heap.size ≤ g := hat.imp id (fun e => Nat.le_of_eq e.symm)
        have T4 := hide (Bk.turn (w := (w3.alloc (.cells #[.int .i64 0, .int .i64 0] 36)).drew) (R3.out.next (below_drew0 ((Below.refl _ _).alloc (Nat.le_refl _) _))) hjG hown4 hgrow hat')
        have HAT := hide hat'
        clear hown4 hgrow hat hlt4 hat'
        go_wp2
        go_roundw
        case rel =>
          refine ⟨k + 1, _, _, _, by omega, int_eq (by omega), ?_, T4.out, fun i hi => ?_, ?_, ?_⟩
          · exact (RO.out.kept (Fr.of_below (S := fun _ => False) hb3) id).kept F4.out (fun e => by rcases e with e | e; exact hnM e; omega)
          · by_cases e : i = j
            · subst e
              rw [upd_same, upd_same, upd_same]
              obtain ⟨a1, a2, a3⟩ := RS.out i hi
              refine ⟨by rw [cnt_same hG1 hG4 HJ.out, a1], by rw [a2, show 2 * (m i + 1) = 2 * m i + 2 from rfl]; exact List.replicate_append_replicate (a := Value.int .i64 0) (m := 2), fun e => by omega⟩
            · rw [upd_other _ e, upd_other _ e, upd_other _ e]
              obtain ⟨a1, a2, a3⟩ := RS.out i hi
              exact ⟨by rw [cnt_other hG1 hG4 hi (by rw [HJ.out]; exact fun h => e h.symm), a1], a2, a3⟩
          · have h1 : Fr (fun k => w.heap.size ≤ k) w3 _ := F4.out.mono (fun i _ h => by rcases h with h | h; (have := hVlt j i hjG h; have := HB.out.size; omega); (have := HB.out.size; omega))
            exact hB3.trans (h1.below hB3.size (fun i hi h => by omega))
          · exact box_fr (box_fr RX.out (Fr.of_below (S := fun _ => False) hb3) id) F4.out (fun e => by rcases e with e | e; exact hnX e; (have := HB.out.size; omega))
        case measure => simp [intOf]; omega
    · obtain rfl : k = q.n := by omega
      go_wp2
      go_ret2
      have hVlt : ∀ i g, i < q.G → (V i).ownBlock = some g → w1.heap.size + 2 ≤ g := fun i g hi e => ((RK.out.own i hi).lt g e).1
      have mem := Bk.mem (φ := fun _ => 0) RO.out RK.out (by omega) (fun j hj e => by have := hVlt j _ hj e; omega) (fun j hj => (RS.out j hj).1) (fun j hj => (RS.out j hj).2.2) (fun j p t hj hp ht => by
        rw [(RS.out j hj).2.1, List.getElem?_replicate, if_pos (by omega)])
      refine ⟨w1.heap.size + 1, w1.heap.size, _, rfl, mem.1, fun k hk => ?_, hB⟩
      have := HB.out.size
      rcases mem.2 k hk with e | e | e <;> omega
end Go.Proofs.Ytofgpcdhgkeccaa
