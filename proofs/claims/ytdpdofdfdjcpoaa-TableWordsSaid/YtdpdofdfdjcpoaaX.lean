/- The reference's plain and Words, walked. -/
import Derived.Test.YtdpdofdfdjcpoaaS
import Derived.WalkKit
import Derived.WalkSpells
import Derived.ProofKit
import Derived.Outline
import Derived.Handy
import Derived.RowKit3
import Derived.BigQuiet
import Derived.Deep.QuietTactic
import Derived.Deep.RegionHeld3
import Derived.Deep.Draws
import Derived.RegionTactic
import Derived.BigRegion
import Derived.IntWalk
import Derived.LoopTactic
import Derived.OwnWalk
import Derived.Laws.AppendOwn
import Derived.Laws.OwnMore
import Derived.Laws.MakeOwn
import Derived.Laws.Pointers
import Derived.Maps.AppendAt
import Derived.Below
namespace Go.Proofs.Ytdpdofdfdjcpoaa
open Go.RowKit
set_option linter.unusedVariables false
set_option maxRecDepth 100000

def RpRel (n a : Nat) (o : Nat → Int) (l : Nat → Bool) (w : World) (v : Value) (wr : World) : Prop :=
  ∃ m : Nat, 4 * a ≤ m ∧ m ≤ 4 * a + 4 ∧ m ≤ n ∧ v = .int .i64 m ∧ (∀ i, 4 * a + i < m → o (4 * a + i) = o (4 * a) ∧ l (4 * a + i) = false) ∧ Below w.heap.size w wr
set_option maxHeartbeats 2000000 in
theorem rplain_any (R n a : Nat) (o : Nat → Int) (l : Nat → Bool) (h : 4 * a < n) (hn : n ≤ 16) (v : Bool) (hv : plB n o l a = v) (w : World) (hR : Rw w R n o l) :
    Calls Try.prog 33 #[.slice (some ⟨R, 0, none⟩) n n, .int .i64 a] w fun r w' => r = .returned (.bool v) ∧ Below w.heap.size w w' := by
  have HR := hide hR
  have HV := hide hv
  clear hR hv
  have z1 : (4 * (a : Int)).toNat = 4 * a := by omega
  have z2 : 4 * (a : Int) < n := by omega
  go_enter Try.func33, Try.ntmps33
  go_wp2
  go_loopw [5] (fun v5 wr => RpRel n a o l w v5 wr) (fun v5 _ => 4 * a + 4 - (intOf v5).toNat)
  case atStart => exact ⟨4 * a, Nat.le_refl _, by omega, by omega, int_eq (by omega), fun i hi => by omega, Below.refl _ _⟩
  case round =>
    obtain ⟨m, hm1, hm2, hm3, rfl, hall, hB⟩ := hrel
    by_cases hlt : m < 4 * a + 4 ∧ m < n
    · have k1 : (m : Int) < 4 * a + 4 := by omega
      have k2 : (m : Int) < n := by omega
      have hmn := hlt.2
      have HL := hide hlt
      obtain ⟨s1, s2⟩ := HR.out.next hB
      obtain ⟨c0, c1, -, -⟩ := s2 m hmn
      obtain ⟨d0, -, -, -⟩ := s2 (4 * a) h
      clear s2 hlt
      obtain ⟨i, hi⟩ : ∃ i, m = 4 * a + i := ⟨m - 4 * a, by omega⟩
      have HI := hide hi
      have hi4 := hide (show i < 4 by omega)
      clear hi
      have ALL := hide hall
      clear hall
      by_cases e2 : l m = false
      · rw [e2] at c1
        by_cases e1 : o m = o (4 * a)
        · rw [e1] at c0
          have E1 := hide e1
          have E2 := hide e2
          clear e1 e2
          go_wp2_with (go_quiet (fail))
          go_roundw
          case rel =>
            refine ⟨m + 1, by omega, by omega, by omega, int_eq (by omega), fun j hj => ?_, below_drewN hB _⟩
            by_cases e : 4 * a + j = m
            · rw [e]; exact ⟨E1.out, E2.out⟩
            · exact ALL.out j (by omega)
          case measure => simp [intOf]; omega
        · have f0 : (o m == o (4 * a)) = false := by simpa using e1
          have HP := hide (plB_no (n := n) (o := o) (l := l) (a := a) (i := i) hi4.out (by have := HI.out; omega) (by rw [← HI.out]; exact fun q => e1 q.1))
          replace e1 := hide e1
          replace e2 := hide e2
          go_wp2_with (go_quiet (fail))
          go_ret
          exact ⟨ret_bool (by rw [← HV.out, HP.out]), below_drewN hB _⟩
      · have e3 : l m = true := by simpa using e2
        have HP := hide (plB_no (n := n) (o := o) (l := l) (a := a) (i := i) hi4.out (by have := HI.out; omega) (by rw [← HI.out]; exact fun q => e2 q.2))
        rw [e3] at c1
        replace e2 := hide e2
        replace e3 := hide e3
        go_wp2_with (go_quiet (fail))
        go_ret
        exact ⟨ret_bool (by rw [← HV.out, HP.out]), below_drewN hB _⟩
    · have HP := hide ((plB_iff n o l a).2 (fun i hi hin => hall i (by omega)))
      clear hall
      by_cases k1 : (m : Int) < 4 * a + 4
      · have k2 : ¬ (m : Int) < n := by omega
        clear hlt
        go_wp2
        go_ret
        exact ⟨ret_bool (by rw [← HV.out, HP.out]), hB⟩
      · clear hlt
        go_wp2
        go_ret
        exact ⟨ret_bool (by rw [← HV.out, HP.out]), hB⟩
theorem zero_cell (n k : Nat) (hk : k < n) : (madeCells (Value.int .i64 0).cells n)[k]? = some (.int .i64 0) := by
  simp [madeCells, hk, Value.cells, Nat.mod_one]
def Row (g m : Nat) (f : Nat → Int) (w : World) : Prop := g < w.heap.size ∧ ∀ j, j < m → w.cell? ⟨g, j, none⟩ = some (.int .i64 (f j)) ∧ w.frozen? ⟨g, j, none⟩ = false
theorem Row.next {g m : Nat} {f : Nat → Int} {w w' : World} (h : Row g m f w) (k : Below w.heap.size w w') : Row g m f w' :=
  ⟨Nat.lt_of_lt_of_le h.1 k.size, fun j hj => ⟨cell_next k h.1 (h.2 j hj).1, (k.frozen (p := ⟨g, j, none⟩) h.1).trans (h.2 j hj).2⟩⟩
theorem Row.set {g m j : Nat} {f : Nat → Int} {w : World} (h : Row g m f w) (hj : j < m) (x : Int) : Row g m (upd f j x) (w.setCell ⟨g, j, none⟩ (.int .i64 x)) := by
  refine ⟨by simpa [World.setCell] using h.1, fun i hi => ⟨?_, by simpa [World.frozen?_setCell] using (h.2 i hi).2⟩⟩
  by_cases e : i = j
  · subst e
    rw [World.cell?_setCell_same' _ _ _ (by rw [(h.2 i hi).1]; rfl)]
    simp [upd]
  · rw [setCell_cell_other (by intro q; injection q with q1 q2; exact e q2), (h.2 i hi).1]
    simp [upd, e]
def R1Rel (mn n g : Nat) (o : Nat → Int) (l : Nat → Bool) (w : World) (v : Value) (wr : World) : Prop :=
  ∃ (k : Nat) (f : Nat → Int), k ≤ mn ∧ v = .int .i64 k ∧ Row g (mn + n) f wr ∧ (∀ j, j < k → f j = wdF mn n o l j) ∧ Below w.heap.size w wr
def R2Rel (mn n g : Nat) (o : Nat → Int) (l : Nat → Bool) (w : World) (v : Value) (wr : World) : Prop :=
  ∃ (k : Nat) (f : Nat → Int), k ≤ n ∧ v = .int .i64 k ∧ Row g (mn + n) f wr ∧ (∀ j, j < mn + k → f j = wdF mn n o l j) ∧ Below w.heap.size w wr
theorem f_next {f h : Nat → Int} {k : Nat} {x : Int} (hf : ∀ j, j < k → f j = h j) (hx : x = h k) : ∀ j, j < k + 1 → upd f k x j = h j := by
  intro j hj
  unfold upd
  split
  · rename_i e; rw [e, hx]
  · exact hf j (by omega)
theorem upd_twice {f : Nat → Int} {k : Nat} {x y : Int} : upd (upd f k x) k y = upd f k y := by funext i; unfold upd; split <;> simp_all
set_option maxHeartbeats 8000000 in
theorem rwords_any (mn R n : Nat) (o : Nat → Int) (l : Nat → Bool) (h1 : 1 ≤ n) (hn : n ≤ 16) (hm : (n + 3) / 4 = mn) (ho : ∀ j, 0 ≤ o j ∧ o j ≤ 4) (w : World) (hR : Rw w R n o l) :
    Calls Try.prog 25 #[.slice (some ⟨R, 0, none⟩) n n] w fun r w' => ∃ g, r = .returned (.slice (some ⟨g, 0, none⟩) (mn + n) (mn + n)) ∧ Cs w' g (wdV (wdF mn n o l)) (mn + n) ∧ Below w.heap.size w w' := by
  obtain ⟨i0, hi, hz0, hz1, hz2⟩ := info_parts info3
  have hm4 : mn ≤ 4 := by omega
  have hmk : ∀ W : World, Sem.run Try.prog (Instr.makeSlice 45 (.int .i64 ((mn : Int) + n)) (.int .i64 ((mn : Int) + n))) W = Result.ok (.slice (some ⟨W.heap.size, 0, none⟩) (mn + n) (mn + n)) (W.alloc (.cells (madeCells (Value.int .i64 0).cells ((mn + n) * i0.size)) 3)) := fun W => by
    have := run_make_rowN (P := Try.prog) 45 3 i0 (.int .i64 0) Try.underlying45 hi hz0 .i64 .i64 (mn + n) (mn + n) (Nat.le_refl _) (by rw [hz2]; omega) (by omega) W
    rw [Int.natCast_add] at this
    exact this
  have HR := hide hR
  have HM := hide hm
  have HM2 := hide (show ∀ k, k < mn → 4 * k < n from fun k hk => by omega)
  replace ho := hide ho
  have row0 : Row w.heap.size (mn + n) (fun _ => 0) (w.alloc (.cells (madeCells (Value.int .i64 0).cells ((mn + n) * i0.size)) 3)) := by
    refine ⟨by simp, fun j hj => ⟨(World.cell?_alloc_new _ _ _ _).trans ?_, World.frozen?_alloc_new _ _ _ _⟩⟩
    rw [hz1, Nat.mul_one]
    exact zero_cell _ _ hj
  replace row0 := hide row0
  have hRw : R < w.heap.size := hR.1
  clear hR hm
  go_enter Try.func25, Try.ntmps25
  go_wp2_with fail
  refine (rgroups_any n mn h1 hn HM.out _).mono ?_
  rintro r w1 ⟨rfl, rfl⟩
  go_wp2
  go_loopw [5] (fun v5 wr => R1Rel mn n w.heap.size o l w v5 wr) (fun v5 _ => mn - (intOf v5).toNat)
  case atStart => exact ⟨0, fun _ => 0, Nat.zero_le _, rfl, by have q := row0.out; rw [hz1, Nat.mul_one] at q; exact q, fun j hj => by omega, (Below.refl _ _).alloc (Nat.le_refl _) _⟩
  case round =>
    obtain ⟨k, f, hk, rfl, hrow, hf, hB⟩ := hrel
    replace hrow := hide hrow
    replace hf := hide hf
    by_cases hlt : k < mn
    · have h4 := HM2.out k hlt
      have z1 : (4 * (k : Int)).toNat = 4 * k := by omega
      have z2 : 4 * (k : Int) < n := by omega
      obtain ⟨ob1, ob2⟩ := ho.out (4 * k)
      cases hp : plB n o l k
      · have HP := hide hp
        clear hp
        go_wp2_with fail
        refine (rplain_any R n k o l h4 hn false HP.out _ (HR.out.next hB)).mono ?_
        rintro r w2 ⟨rfl, hb2⟩
        have row2 := hide (hrow.out.next hb2)
        obtain ⟨r0, r1⟩ := row2.out.2 k (by omega)
        have q2 := hide (below_step hB hB.size hb2)
        have kk : k < mn + n := by omega
        have kk2 : (k : Int) < (mn : Int) + n := by omega
        go_wp2
        go_roundw
        case rel => exact ⟨k + 1, _, by omega, int_eq (by omega), row2.out.set kk _, f_next hf.out (by rw [wd_part hlt HP.out]), q2.out.setCell (Nat.le_refl _) _⟩
        case measure => simp [intOf]; omega
      · have HP := hide hp
        clear hp
        go_wp2_with fail
        refine (rplain_any R n k o l h4 hn true HP.out _ (HR.out.next hB)).mono ?_
        rintro r w2 ⟨rfl, hb2⟩
        have row2 := hide (hrow.out.next hb2)
        obtain ⟨r0, r1⟩ := row2.out.2 k (by omega)
        have q2 := hide (below_step hB hB.size hb2)
        have kk : k < mn + n := by omega
        have kk2 : (k : Int) < (mn : Int) + n := by omega
        obtain ⟨c0, c1, -, -⟩ := (HR.out.next q2.out).2 (4 * k) h4
        go_wp2
        go_roundw
        case rel => exact ⟨k + 1, _, by omega, int_eq (by omega), row2.out.set kk _, f_next hf.out (by rw [wd_plain hlt HP.out]), q2.out.setCell (Nat.le_refl _) _⟩
        case measure => simp [intOf]; omega
    · have hkm : ¬ (k : Int) < mn := by omega
      have hkm2 : k = mn := by omega
      have HK := hide hkm2
      clear hkm2
      go_wp2
      go_loopw [6] (fun v6 wr => R2Rel mn n w.heap.size o l w v6 wr) (fun v6 _ => n - (intOf v6).toNat)
      case atStart => exact ⟨0, f, Nat.zero_le _, rfl, hrow.out, by rw [HK.out] at hf; exact hf.out, hB⟩
      case round =>
        obtain ⟨j, f, hj, rfl, hrow, hf, hB⟩ := hrel
        replace hrow := hide hrow
        replace hf := hide hf
        by_cases hlj : j < n
        · have z1 : ((mn : Int) + j).toNat = mn + j := by omega
          have z2 : (mn : Int) + j < (mn : Int) + n := by omega
          have z3 : 0 ≤ (mn : Int) + j := by omega
          have kk : mn + j < mn + n := by omega
          obtain ⟨ob1, ob2⟩ := ho.out j
          obtain ⟨r0, r1⟩ := hrow.out.2 (mn + j) kk
          obtain ⟨s1, s2⟩ := HR.out.next hB
          obtain ⟨c0, c1, -, -⟩ := s2 j hlj
          clear s2
          have hne : R ≠ w.heap.size := by omega
          cases hl : l j
          · have HL := hide hl
            rw [hl] at c1
            clear hl
            go_wp2
            go_roundw
            case rel => exact ⟨j + 1, _, by omega, int_eq (by omega), hrow.out.set kk _, f_next (k := mn + j) hf.out (by rw [wd_own, HL.out]; rfl), hB.setCell (Nat.le_refl _) _⟩
            case measure => simp [intOf]; omega
          · have HL := hide hl
            rw [hl] at c1
            clear hl
            have row1 := hide (hrow.out.set kk (o j))
            obtain ⟨t0, t1⟩ := row1.out.2 (mn + j) kk
            go_wp2
            go_roundw
            case rel => exact ⟨j + 1, _, by omega, int_eq (by omega), row1.out.set kk _, by rw [upd_twice]; exact f_next (k := mn + j) hf.out (by rw [wd_own, HL.out]; rfl), (hB.setCell (Nat.le_refl _) _).setCell (Nat.le_refl _) _⟩
            case measure => simp [intOf]; omega
        · have hjn : ¬ (j : Int) < n := by omega
          have hjn2 : j = n := by omega
          have HJ := hide hjn2
          clear hjn2
          go_wp2
          go_ret
          exact ⟨_, rfl, ⟨hrow.out.1, fun i hi => by rw [(hrow.out.2 i hi).1, hf.out i (by rw [HJ.out]; exact hi)]; rfl⟩, hB⟩
end Go.Proofs.Ytdpdofdfdjcpoaa
