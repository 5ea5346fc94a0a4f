/- Learn into a full checker. -/
import Derived.Test.YtfikiophfphmbaaN7
import Derived.WalkKit
import Derived.WalkSpells
import Derived.ProofKit
import Derived.Outline
import Derived.Handy
import Derived.RowKit3
import Derived.BigQuiet
import Derived.Deep.QuietTactic
import Derived.Deep.RegionHeld3
import Derived.Deep.Draws
import Derived.Deep.RegionLaw
import Derived.RegionTactic
import Derived.BigRegion
import Derived.IntWalk
import Derived.LoopTactic
import Derived.OwnWalk
import Derived.Laws.AppendOwn
import Derived.Laws.OwnMore
import Derived.Laws.MakeOwn
import Derived.Laws.Pointers
import Derived.Maps.AppendAt
import Derived.Deep.AppendLies
import Derived.Below
namespace Go.Proofs.Ytfikiophfphmbaa
open Go.RowKit
set_option linter.unusedVariables false
set_option maxRecDepth 100000

section
variable {P en gs : Nat} {ws st : Bool} {gr at_ : Int} {v : Value} {ks : List (Int × Int)}
theorem Ck.rowed {w w1 : World} {g : Nat} {v' : Value} {ks' : List (Int × Int)} (h : Ck w P ws st gr at_ en gs v ks) (f : Fr (fun k => k = g) w w1) (hg : P ≠ g) (hown : w1.ownsRow 0 74 2 v' ks'.length (kcells ks')) (ne : v'.ownBlock ≠ some P) (hle : ks'.length ≤ en) : Ck (w1.setCell ⟨P, 6, none⟩ v') P ws st gr at_ en gs v' ks' := by
  have f2 : Fr (fun k => k = P) w1 (w1.setCell ⟨P, 6, none⟩ v') := (Fr.refl (fun k => k = P) w1).setCell (p := ⟨P, 6, none⟩) (fun _ => rfl) _
  have s : ∀ (j : Nat), j ≠ 6 → (w1.setCell ⟨P, 6, none⟩ v').cell? ⟨P, j, none⟩ = w.cell? ⟨P, j, none⟩ := fun j hne => (setCell_cell_other (by intro e; injection e; omega)).trans (f.cell h.hP hg)
  exact ⟨Nat.lt_of_lt_of_le (Nat.lt_of_lt_of_le h.hP f.size) f2.size, (s 0 (by omega)).trans h.c0, (s 1 (by omega)).trans h.c1, (s 2 (by omega)).trans h.c2, (s 3 (by omega)).trans h.c3, (s 4 (by omega)).trans h.c4, (s 5 (by omega)).trans h.c5, World.cell?_setCell_same' _ _ _ (by rw [f.cell h.hP hg, h.c6]; rfl), fun t ht => by simpa [World.frozen?_setCell] using (f.frozen h.hP hg).trans (h.f t ht), ownsRow_fr hown f2 (fun k hk e => ne (by rw [hk, e])), ne, h.e8, h.g1, h.g16, hle⟩
set_option maxHeartbeats 4000000 in
theorem learn_full (a b : Int) (x : Int × Int) (hlt : ks.length + 1 = en) (w : World) (h : Ck w P ws st gr at_ en gs v (x :: ks)) : Calls Try.prog 36 #[.pointer (some ⟨P, 0, none⟩), .agg #[.int .i64 a, .int .i64 b]] w fun r w' => (∃ x, r = .returned x) ∧ ∃ v', Ck w' P ws st gr at_ en gs v' (ks ++ [(a, b)]) ∧ Fr (Ck.S P v) w w' ∧ ∀ k, Ck.S P v' k → Ck.S P v k ∨ w.heap.size ≤ k := by
  obtain ⟨i0, hi, hz0, hz1, hz2⟩ := info_parts info74
  have c6 := h.c6
  have c4 := h.c4
  have f6 := h.f 6 (by omega)
  have he := h.e8
  have hP := h.hP
  have H := hide h
  have hPn : ¬ w.heap.size = P := by omega
  have e1 : (ks.length + 1 == en) = true := by simpa using hlt
  have e2 : ((ks.length : Int) + 1 == (en : Int)) = true := by simp; omega
  have HT := hide hlt
  rcases h.form with ⟨rfl, h0⟩ | ⟨g0, cp, rfl, k1, k2, k3, k4, -⟩
  · simp at h0
  · simp only [List.length_cons] at k1 c6
    have hown : w.ownsRow 0 74 2 (.slice (some ⟨g0, 0, none⟩) (ks.length + 1) cp) (ks.length + 1) (kcells (x :: ks)) := h.own
    have HO := hide hown
    have h8 : ks.length ≤ 8 := by omega
    clear h hown hlt
    go_enter Try.func36, Try.ntmps36
    go_wp2_with (go_quiet (fail))
    have hb0 : Below w.heap.size w ((w.alloc (.cells #[.int .i64 a, .int .i64 b] 74)).drewN nq) := below_drewN ((Below.refl w.heap.size w).alloc (Nat.le_refl _) (.cells #[.int .i64 a, .int .i64 b] 74)) nq
    refine (del_first x ks g0 cp _ (H.out.next hb0).own (by omega) k2 h8).mono ?_
    rintro r w1 ⟨rfl, hown, f1⟩
    have y0 : w1.cell? ⟨w.heap.size, 0, none⟩ = some (.int .i64 a) := (f1.cell (by simp) (by omega)).trans (World.cell?_alloc_new w _ 74 0)
    have y1 : w1.cell? ⟨w.heap.size, 1, none⟩ = some (.int .i64 b) := (f1.cell (by simp) (by omega)).trans (World.cell?_alloc_new w _ 74 1)
    have hs1 : w.heap.size < w1.heap.size := Nat.lt_of_lt_of_le (by simp) f1.size
    have HC := hide ((H.out.next hb0).rowed f1 (Ne.symm k4) hown (by simp [Value.ownBlock]; exact k4) (by have := HT.out; omega))
    have d6 : w1.cell? ⟨P, 6, none⟩ = some (.slice (some ⟨g0, 0, none⟩) (ks.length + 1) cp) := (f1.cell (Nat.lt_of_lt_of_le hP hb0.size) (Ne.symm k4)).trans (H.out.next hb0).c6
    have df6 : w1.frozen? ⟨P, 6, none⟩ = false := (f1.frozen (Nat.lt_of_lt_of_le hP hb0.size) (Ne.symm k4)).trans ((H.out.next hb0).f 6 (by omega))
    have FF := hide (((Fr.of_below (S := Ck.S P (.slice (some ⟨g0, 0, none⟩) (ks.length + 1) cp)) hb0).trans f1 (fun _ _ e => .inr (by rw [e]; rfl))).setCell (p := ⟨P, 6, none⟩) (fun _ => .inl rfl) (.slice (some ⟨g0, 0, none⟩) ks.length cp))
    have hP1 : P < w1.heap.size := by omega
    have c6' := HC.out.c6
    clear hown f1 c6 c4 f6
    go_wp2_with (go_quiet (fail))
    have hlt : ks.length < en := by have := HT.out; omega
    have HW := hide ((HC.out.next (below_drew0 (Below.refl _ _))).next ((Below.refl _ _).alloc (Nat.le_refl _) (.cells #[.int .i64 a, .int .i64 b] 74)))
    have HO2 := hide HW.out.own
    go_region_law ((refine step_append_lies _ (by rfl) (.tmp 26) (.tmp 28) 66 (by rfl) 0 74 i0 (.agg #[.int .i64 0, .int .i64 0]) 2 16 Try.underlying66 hi hz0 hz1 hz2 (by rfl) (by decide) (Value.slice (some ⟨g0, 0, none⟩) ks.length cp) _ (kcells ks) (by rfl) HO2.out ⟨w1.heap.size, 0, none⟩ 1 1 [.int .i64 a, .int .i64 b] (by rfl) rfl (news2 _ a b _ (by simp)) (kcells_cell [(a, b)]) (by omega) (by unfold maxLen; first | omega | (simp; done) | (simp; omega)) (by first | omega | (simp; done) | (simp; omega)) (Nat.zero_le _) _ rfl ?_; intro g2 cap w2 hown hgrow hat hlt2; have q1 : w2.cell? ⟨P, 6, none⟩ = some (Value.slice (some ⟨g0, 0, none⟩) ks.length cp) := hgrow.cell HW.out.c6 (fun e => HW.out.ne e.symm); have q2 : w2.frozen? ⟨P, 6, none⟩ = false := (World.frozen?_of_block (a := ⟨P, 6, none⟩) (hgrow.block P HW.out.hP (fun e => HW.out.ne e.symm))).trans (HW.out.f 6 (by omega)); have HN := hide hown; have HGR := hide hgrow; have HAT := hide hat; clear hown hgrow hat))
    all_goals
      go_end0
      obtain ⟨a1, a2, a3⟩ := HW.out.app (ks' := ks ++ [(a, b)]) (show w2.ownsRow 0 74 2 (.slice (some ⟨g2, 0, none⟩) (ks.length + 1) cap) (ks ++ [(a, b)]).length (kcells (ks ++ [(a, b)])) from by rw [List.length_append, kcells_app]; exact HN.out) HGR.out (fun k hk => by
        have hk2 : g2 = k := by simpa [Value.ownBlock] using hk
        rcases HAT.out with e | e
        · exact .inl (by rw [e, hk2])
        · exact .inr (by simp; simp at e; omega)) (by simp; omega)
      exact ⟨⟨_, rfl⟩, _, a1, ((FF.out.drew).alloc _).trans a2 (fun _ _ e => e), fun k hk => (a3 k hk).imp (fun e => e) (fun e => by simp at e; omega)⟩
end
end Go.Proofs.Ytfikiophfphmbaa
