/- lines, Same, walked. -/
import Derived.Test.YtofgpcdhgkeccaaO
import Derived.WalkKit
import Derived.WalkSpells
import Derived.ProofKit
import Derived.Outline
import Derived.Handy
import Derived.RowKit3
import Derived.BigQuiet
import Derived.Deep.QuietTactic
import Derived.Deep.RegionHeld3
import Derived.Deep.Draws
import Derived.RegionTactic
import Derived.BigRegion
import Derived.IntWalk
import Derived.LoopTactic
import Derived.OwnWalk
import Derived.Laws.AppendOwn
import Derived.Laws.OwnMore
import Derived.Laws.MakeOwn
import Derived.Laws.Pointers
import Derived.Maps.AppendAt
import Derived.Deep.AppendLies
import Derived.Below
import Derived.ChangeKeysEq
namespace Go.Proofs.Ytofgpcdhgkeccaa
open Go.RowKit
set_option linter.unusedVariables false
set_option maxRecDepth 100000


theorem lines_in (q : Cfg) (w : World) : Calls Try.prog 25 #[q.v] w fun r w' => r = .returned (.int .i64 (q.n : Int)) ∧ Below w.heap.size w w' := by
  refine (lines_yes q.a q.b q.c q.d q.e q.f q.g q.ok w).mono ?_
  rintro r w' ⟨rfl, hb⟩
  exact ⟨by rw [q.hn], hb⟩
theorem below_drew0 {B : Nat} {a w : World} (h : Below B a w) : Below B a w.drew := ⟨h.os, h.tape, h.output, h.size, h.block⟩
/-- Lines in a row, in block E. -/
def Ls (w : World) (E n : Nat) (ψ : Nat → Int) : Prop :=
  E < w.heap.size ∧ ∀ i, i < n → w.cell? ⟨E, i * 2, none⟩ = some (.int .i64 (ψ (i * 2))) ∧ w.cell? ⟨E, i * 2 + 1, none⟩ = some (.int .i64 (ψ (i * 2 + 1))) ∧ w.frozen? ⟨E, i * 2, none⟩ = false ∧ w.frozen? ⟨E, i * 2 + 1, none⟩ = false
theorem Ls.next {w w' : World} {E n : Nat} {ψ : Nat → Int} (h : Ls w E n ψ) (hb : Below w.heap.size w w') : Ls w' E n ψ :=
  ⟨Nat.lt_of_lt_of_le h.1 hb.size, fun i hi => ⟨cell_next hb h.1 (h.2 i hi).1, cell_next hb h.1 (h.2 i hi).2.1, (hb.frozen (p := ⟨E, i * 2, none⟩) h.1).trans (h.2 i hi).2.2.1, (hb.frozen (p := ⟨E, i * 2 + 1, none⟩) h.1).trans (h.2 i hi).2.2.2⟩⟩
theorem Ls.congr {w : World} {E n : Nat} {ψ φ : Nat → Int} (h : Ls w E n ψ) (e : ∀ m, m < n * 2 → ψ m = φ m) : Ls w E n φ :=
  ⟨h.1, fun i hi => by obtain ⟨a, b, c⟩ := h.2 i hi; rw [← e _ (by omega), ← e _ (by omega)]; exact ⟨a, b, c⟩⟩
theorem Ls.set {w : World} {E n : Nat} {ψ : Nat → Int} (h : Ls w E n ψ) {i : Nat} (hi : i < n) (x y : Int) : Ls ((w.setCell ⟨E, i * 2, none⟩ (.int .i64 x)).setCell ⟨E, i * 2 + 1, none⟩ (.int .i64 y)) E n (upd (upd ψ (i * 2) x) (i * 2 + 1) y) := by
  obtain ⟨h2, h5⟩ := h
  have c0 := (h5 i hi).1
  have c1 := (h5 i hi).2.1
  have s0 : (w.setCell ⟨E, i * 2, none⟩ (.int .i64 x)).cell? ⟨E, i * 2, none⟩ = some (.int .i64 x) := World.cell?_setCell_same' _ _ _ (by rw [c0]; rfl)
  have s1 : (w.setCell ⟨E, i * 2, none⟩ (.int .i64 x)).cell? ⟨E, i * 2 + 1, none⟩ = some (.int .i64 (ψ (i * 2 + 1))) := by rw [setCell_cell_other (by simp)]; exact c1
  refine ⟨by simpa [World.setCell] using h2, fun k hk => ?_⟩
  obtain ⟨a1, a2, a3, a4⟩ := h5 k hk
  refine ⟨?_, ?_, by simpa [World.frozen?_setCell] using a3, by simpa [World.frozen?_setCell] using a4⟩
  · by_cases e : k = i
    · subst e
      rw [setCell_cell_other (by simp), s0, upd_other _ (by omega), upd_same]
    · rw [setCell_cell_other (by intro q; injection q with q1 q2; omega), setCell_cell_other (by intro q; injection q with q1 q2; omega), a1, upd_other _ (by omega), upd_other _ (by omega)]
  · by_cases e : k = i
    · subst e
      rw [World.cell?_setCell_same' _ _ _ (by rw [s1]; rfl), upd_same]
    · rw [setCell_cell_other (by intro q; injection q with q1 q2; omega), setCell_cell_other (by intro q; injection q with q1 q2; omega), a2, upd_other _ (by omega), upd_other _ (by omega)]
theorem made_zero (n k : Nat) (hk : k < n * 2) : (madeCells #[.int .i64 0, .int .i64 0] (n * 2))[k]? = some (.int .i64 0) := by
  simp only [madeCells, Array.getElem?_map, Array.getElem?_range, hk, if_true, Option.map_some]
  have : k % 2 = 0 ∨ k % 2 = 1 := by omega
  rcases this with h | h <;> simp [h]
theorem ls_new (w : World) (n : Nat) (t : TypeId) : Ls (w.alloc (.cells (madeCells #[.int .i64 0, .int .i64 0] (n * 2)) t)) w.heap.size n (fun _ => 0) := by
  refine ⟨by simp, fun j hj => ?_⟩
  have a0 := made_zero n (j * 2) (by omega)
  have a1 := made_zero n (j * 2 + 1) (by omega)
  exact ⟨(World.cell?_alloc_new _ _ _ _).trans a0, (World.cell?_alloc_new _ _ _ _).trans a1, World.frozen?_alloc_new _ _ _ _, World.frozen?_alloc_new _ _ _ _⟩
theorem run_make_rowN {P : Program} (t e : TypeId) (i : TypeInfo) (z : Value) (ht : P.underlying t = some (.slice e)) (hi : P.info? e = some i) (hz : i.zero = some z)
    (kl kc : IntKind) (n c : Nat) (hnc : n ≤ c) (hbytes : i.bytes * c ≤ 281474976710656) (h63 : c ≤ 9223372036854775807) (w : World) :
    (Instr.makeSlice t (.int kl (n : Int)) (.int kc (c : Int))).run P w = .ok (.slice (some ⟨w.heap.size, 0, none⟩) n c) (w.alloc (.cells (madeCells z.cells (c * i.size)) e)) := by
  have hb : (i.bytes : Int) * (c : Int) ≤ 281474976710656 := by
    have h : ((i.bytes * c : Nat) : Int) ≤ 281474976710656 := by omega
    rwa [Int.natCast_mul] at h
  have hr := run_make (P := P) w t e i z ht hi hz kl kc n c (by omega) (by omega) hb (by omega)
  simp only [Int.toNat_natCast] at hr
  exact hr
theorem info36 : (Try.prog.info? 36).map (fun i => (i.zero, i.size, i.bytes)) = some (some (.agg #[.int .i64 0, .int .i64 0]), 2, 16) := by kernel_rfl
theorem int_eq {k : IntKind} {a b : Int} (h : a = b) : Value.int k a = Value.int k b := by rw [h]
theorem bool_eq {a b : Bool} (h : a = b) : Value.bool a = Value.bool b := by rw [h]
theorem ret_slice {a : Option Addr} {n m : Nat} (h : n = m) : Ending.returned (.slice a n n) = .returned (.slice a m m) := by rw [h]
def LRel (q : Cfg) (M K : Nat) (L : Nat → Nat) (φ : Nat → Int) (E : Nat) (w : World) (v : Value) (wr : World) : Prop :=
  ∃ (k : Nat) (ψ : Nat → Int), k ≤ q.n ∧ v = .int .i64 k ∧ Ls wr E q.n ψ ∧ (∀ m, m < k * 2 → ψ m = φ m) ∧ Mem wr q M K L φ ∧ Below w.heap.size w wr
set_option maxHeartbeats 4000000 in
theorem mlines {q : Cfg} {M K : Nat} {L : Nat → Nat} {φ : Nat → Int} (w : World) (hT : Mem w q M K L φ) :
    Calls Try.prog 33 #[.pointer (some ⟨M, 0, none⟩)] w fun r w' => ∃ E, r = .returned (.slice (some ⟨E, 0, none⟩) q.n q.n) ∧ w.heap.size ≤ E ∧ Ls w' E q.n φ ∧ Below w.heap.size w w' := by
  obtain ⟨i0, hi, hz0, hz1, hz2⟩ := info_parts info36
  have h32 := q.n32
  have hmk := fun W => run_make_rowN (P := Try.prog) 70 36 i0 (.agg #[.int .i64 0, .int .i64 0]) Try.underlying70 hi hz0 .i64 .i64 q.n q.n (Nat.le_refl _) (by rw [hz2]; omega) (by omega) W
  have HT := hide hT
  have c0 := hT.c0
  have c1 := hT.c1
  have c2 := hT.c2
  have c3 := hT.c3
  have c4 := hT.c4
  have c5 := hT.c5
  have c6 := hT.c6
  clear hT
  go_enter Try.func33, Try.ntmps33
  go_wp2_with fail
  refine (lines_in q _).mono ?_
  rintro r w1 ⟨rfl, hb1⟩
  clear c0 c1 c2 c3 c4 c5 c6
  have HE := hide hb1.size
  go_wp2
  go_loopw [16] (fun v16 wr => LRel q M K L φ w1.heap.size w v16 wr) (fun v16 _ => q.n - (intOf v16).toNat)
  case atStart =>
    refine ⟨0, fun _ => 0, Nat.zero_le _, rfl, ?_, fun m hm => by omega, (HT.out.next hb1).alloc _, hb1.alloc hb1.size _⟩
    have := ls_new w1 q.n 36
    simpa [hz1] using this
  case round =>
    obtain ⟨k, ψ, hk, rfl, hls, hall, hTr, hB⟩ := hrel
    have T1 := hide hTr
    have LS := hide hls
    have ALL := hide hall
    have hBs := hB.size
    clear hTr hls hall
    by_cases hlt : k < q.n
    · have KL := hide hlt
      obtain ⟨j, hj⟩ : ∃ j, k % q.G = j := ⟨_, rfl⟩
      obtain ⟨p, hp⟩ : ∃ p, k / q.G = p := ⟨_, rfl⟩
      have HJ := hide hj
      have HP := hide hp
      clear hj hp
      go_wp2_with fail
      refine (find_in k KL.out _ T1.out).mono ?_
      rintro r w2 ⟨rfl, hb2⟩
      rw [HJ.out, HP.out]
      have hT2 := T1.out.next hb2
      have T2 := hide hT2
      have hls2 := LS.out.next hb2
      have LS2 := hide hls2
      obtain ⟨m, cp, h1, h2, h3, h4, h5⟩ := hT2.slice KL.out
      obtain ⟨e1, e2, e3, e4, e5, e6, e7⟩ := hT2.line KL.out
      rw [HJ.out] at h5 e1 e2 e3 e4 e5 e6 e7
      rw [HP.out] at h1 e4 e5 e6 e7
      have h1' : (p : Int) < m := by omega
      obtain ⟨g0, g1, g2, g3⟩ := hls2.2 k hlt
      have hB2 := below_step hB hBs hb2
      clear hT2 hls2
      go_wp2
      go_roundw
      case rel =>
        refine ⟨k + 1, _, by omega, int_eq (by omega), LS2.out.set KL.out _ _, fun m hm => ?_, ?_, ?_⟩
        · unfold upd
          split
          · rename_i e; rw [e]
          · split
            · rename_i e; rw [e]
            · exact ALL.out m (by omega)
        · exact T2.out.kept (S := fun k => k = w1.heap.size) (((Fr.refl (fun k => k = w1.heap.size) _).setCell (p := ⟨w1.heap.size, _, none⟩) (fun _ => rfl) _).setCell (p := ⟨w1.heap.size, _, none⟩) (fun _ => rfl) _) (fun i hi e => by have := HT.out.S_lt i hi; have := HE.out; omega)
        · exact (hB2.setCell (p := ⟨w1.heap.size, _, none⟩) HE.out _).setCell (p := ⟨w1.heap.size, _, none⟩) HE.out _
      case measure => simp [intOf]; omega
    · obtain rfl : k = q.n := by omega
      go_wp2
      go_ret
      exact ⟨w1.heap.size, rfl, HE.out, LS.out.congr ALL.out, hB⟩
def eqB (f g : Nat → Int) (n : Nat) : Bool := (List.range n).all fun j => f j == g j
theorem eqB_iff (f g : Nat → Int) (n : Nat) : eqB f g n = true ↔ ∀ j, j < n → f j = g j := by simp [eqB]
theorem eqB_no {f g : Nat → Int} {n j : Nat} (hj : j < n) (h : f j ≠ g j) : eqB f g n = false := by
  cases hh : eqB f g n
  · rfl
  · exact absurd ((eqB_iff f g n).1 hh j hj) h
theorem info3 : (Try.prog.info? 3).map (fun i => (i.zero, i.size, i.bytes)) = some (some (.int .i64 0), 1, 8) := by kernel_rfl
theorem eq_int (d : Nat) (a b : Int) (w : World) : (Op.equalIn (d + 1) 3 (.int .i64 a) (.int .i64 b)).run Try.prog w = .ok (a == b) w := by
  simp only [Op.equalIn, Sem.run_bind, run_underlying Try.underlying3, Result.andThen_ok]
  rfl
theorem arr_run (d : Nat) (a b c e : Int) (w : World) : (Op.equalIn (d + 2) 36 (.agg #[.int .i64 a, .int .i64 b]) (.agg #[.int .i64 c, .int .i64 e])).run Try.prog w = .ok ((a == c) && (b == e)) w := by
  obtain ⟨i, hi, -⟩ := info_parts info3
  have p0 : ∀ x y : Int, ∀ W, (part 3 #[.int .i64 x, .int .i64 y] (0 * Try.prog.cellsOf 3)).run Try.prog W = .ok (.int .i64 x) W := fun x y W => by kernel_rfl
  have p1' : ∀ x y : Int, ∀ W, (part 3 #[.int .i64 x, .int .i64 y] (Try.prog.cellsOf 3)).run Try.prog W = .ok (.int .i64 y) W := fun x y W => by kernel_rfl
  have p1 : ∀ x y : Int, ∀ W, (part 3 #[.int .i64 x, .int .i64 y] (1 * Try.prog.cellsOf 3)).run Try.prog W = .ok (.int .i64 y) W := fun x y W => by kernel_rfl
  rw [run_equalIn_array w (d + 1) #[.int .i64 a, .int .i64 b] #[.int .i64 c, .int .i64 e] (show Try.prog.underlying 36 = some (.array 2 3) by kernel_rfl) hi]
  rw [show List.range 2 = [0, 1] from rfl]
  simp only [Op.eqItems, Sem.run_bind, p0, p1, Result.andThen_ok, eq_int]
  cases h1 : (a == c) <;> cases h2 : (b == e) <;> simp [Sem.run_bind, p0, p1, p1', Result.andThen_ok, eq_int] <;> simp_all
theorem arr_neq (a b c e : Int) (w : World) : (binOp BinOp.neq 36 (.agg #[.int .i64 a, .int .i64 b]) (.agg #[.int .i64 c, .int .i64 e])).run Try.prog w = .ok (.bool (!((a == c) && (b == e)))) w := by
  have h := arr_run 9998 a b c e w
  have h2 : (Op.equalIn Op.maxDepth 36 (.agg #[.int .i64 a, .int .i64 b]) (.agg #[.int .i64 c, .int .i64 e])).run Try.prog w = .ok ((a == c) && (b == e)) w := h
  simp only [binOp, Sem.run_bind, Op.equal, h2, Result.andThen_ok]
  rfl
theorem arr_eql (a b c e : Int) (w : World) : (binOp BinOp.eql 36 (.agg #[.int .i64 a, .int .i64 b]) (.agg #[.int .i64 c, .int .i64 e])).run Try.prog w = .ok (.bool ((a == c) && (b == e))) w := by
  have h := arr_run 9998 a b c e w
  have h2 : (Op.equalIn Op.maxDepth 36 (.agg #[.int .i64 a, .int .i64 b]) (.agg #[.int .i64 c, .int .i64 e])).run Try.prog w = .ok ((a == c) && (b == e)) w := h
  simp only [binOp, Sem.run_bind, Op.equal, h2, Result.andThen_ok]
  rfl
def SRel (n : Nat) (φ ψ : Nat → Int) (E F : Nat) (w : World) (v : Value) (wr : World) : Prop :=
  ∃ k : Nat, k ≤ n ∧ v = .int .i64 k ∧ Ls wr E n φ ∧ Ls wr F n ψ ∧ (∀ m, m < k * 2 → φ m = ψ m) ∧ Below w.heap.size w wr
set_option maxHeartbeats 4000000 in
theorem same_v {q : Cfg} {M K M2 K2 : Nat} {L L2 : Nat → Nat} {φ ψ : Nat → Int} (v : Bool) (hv : eqB φ ψ (q.n * 2) = v) (w : World) (hT : Mem w q M K L φ) (hU : Mem w q M2 K2 L2 ψ) :
    Calls Try.prog 16 #[.pointer (some ⟨M, 0, none⟩), .pointer (some ⟨M2, 0, none⟩)] w fun r w' => r = .returned (.bool v) ∧ Below w.heap.size w w' := by
  have h32 := q.n32
  replace hT := hide hT
  replace hU := hide hU
  replace hv := hide hv
  have HQ := hide arr_neq
  go_enter Try.func16, Try.ntmps16
  go_wp2_with fail
  refine (mlines _ hT.out).mono ?_
  rintro r w1 ⟨E, rfl, hE, hls1, hb1⟩
  have L1 := hide hls1
  clear hls1
  go_wp2_with fail
  refine (mlines _ (hU.out.next hb1)).mono ?_
  rintro r w2 ⟨F, rfl, hF, hls2, hb2⟩
  have L2' := hide hls2
  have hB2 := below_step hb1 hb1.size hb2
  clear hls2
  go_wp2
  go_loopw [29] (fun v29 wr => SRel q.n φ ψ E F w v29 wr) (fun v29 _ => q.n - (intOf v29).toNat)
  case atStart => exact ⟨0, Nat.zero_le _, rfl, L1.out.next hb2, L2'.out, fun m hm => by omega, hB2⟩
  case round =>
    obtain ⟨k, hk, rfl, hls1, hls2, hall, hB⟩ := hrel
    have LA := hide hls1
    have LB := hide hls2
    have ALL := hide hall
    have hBs := hB.size
    have hEs := hls1.1
    have hFs := hls2.1
    by_cases hlt : k < q.n
    · obtain ⟨a0, a1, -, -⟩ := hls1.2 k hlt
      obtain ⟨b0, b1, -, -⟩ := hls2.2 k hlt
      clear hls1 hls2 hall
      by_cases hs : φ (k * 2) = ψ (k * 2) ∧ φ (k * 2 + 1) = ψ (k * 2 + 1)
      · obtain ⟨s1, s2⟩ := hs
        have S1 := hide s1
        have S2 := hide s2
        rw [← s1] at b0
        rw [← s2] at b1
        clear s1 s2
        go_wp2
        have q0 := fun W => HQ.out (φ (k * 2)) (φ (k * 2 + 1)) (φ (k * 2)) (φ (k * 2 + 1)) W
        simp only [beq_self_eq_true, Bool.and_self, Bool.not_true] at q0
        go_region
        clear q0
        go_wp2
        go_roundw
        case rel =>
          refine ⟨k + 1, by omega, int_eq (by omega), LA.out.next ?_, LB.out.next ?_, fun m hm => ?_, ?_⟩
          · exact below_drew0 ((Below.refl _ _).alloc (Nat.le_refl _) _)
          · exact below_drew0 ((Below.refl _ _).alloc (Nat.le_refl _) _)
          · by_cases e1 : m = k * 2
            · rw [e1]; exact S1.out
            · by_cases e2 : m = k * 2 + 1
              · rw [e2]; exact S2.out
              · exact ALL.out m (by omega)
          · exact below_drew0 (hB.alloc hBs _)
        case measure => simp [intOf]; omega
      · have HV := hide (show eqB φ ψ (q.n * 2) = false by
          by_cases s1 : φ (k * 2) = ψ (k * 2)
          · exact eqB_no (j := k * 2 + 1) (by omega) (fun e => hs ⟨s1, e⟩)
          · exact eqB_no (j := k * 2) (by omega) s1)
        have f0 : ((φ (k * 2) == ψ (k * 2)) && (φ (k * 2 + 1) == ψ (k * 2 + 1))) = false := by
          cases hh : ((φ (k * 2) == ψ (k * 2)) && (φ (k * 2 + 1) == ψ (k * 2 + 1)))
          · rfl
          · simp at hh; exact absurd hh hs
        replace hs := hide hs
        go_wp2
        have q0 := fun W => HQ.out (φ (k * 2)) (φ (k * 2 + 1)) (ψ (k * 2)) (ψ (k * 2 + 1)) W
        rw [f0] at q0
        simp only [Bool.not_false] at q0
        go_region
        clear q0
        go_wp2
        go_ret
        exact ⟨ret_bool (by rw [← hv.out, HV.out]), below_drew0 (hB.alloc hBs _)⟩
    · obtain rfl : k = q.n := by omega
      clear hls1 hls2 hall
      go_wp2
      go_ret
      exact ⟨ret_bool (by rw [← hv.out, (eqB_iff _ _ _).2 ALL.out]), hB⟩
end Go.Proofs.Ytofgpcdhgkeccaa
