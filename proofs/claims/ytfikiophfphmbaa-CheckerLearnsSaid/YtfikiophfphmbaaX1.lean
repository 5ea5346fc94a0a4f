/- DeleteFunc where all match. -/
import Derived.Test.YtfikiophfphmbaaD1
import Derived.Test.YtfikiophfphmbaaQ4
import Derived.WalkKit
import Derived.WalkSpells
import Derived.ProofKit
import Derived.Outline
import Derived.Handy
import Derived.RowKit3
import Derived.BigQuiet
import Derived.Deep.QuietTactic
import Derived.Deep.RegionHeld3
import Derived.Deep.Draws
import Derived.Deep.RegionLaw
import Derived.RegionTactic
import Derived.BigRegion
import Derived.IntWalk
import Derived.LoopTactic
import Derived.OwnWalk
import Derived.Laws.AppendOwn
import Derived.Laws.OwnMore
import Derived.Laws.MakeOwn
import Derived.Laws.Pointers
import Derived.Maps.AppendAt
import Derived.Deep.AppendLies
import Derived.Below
import Derived.Laws.EntriesVeiled
namespace Go.Proofs.Ytfikiophfphmbaa
open Go.RowKit
set_option linter.unusedVariables false
set_option maxRecDepth 100000

section
variable {P en gs : Nat} {ws st : Bool} {gr at_ : Int} {v : Value} {ks : List (Int × Int)}
theorem meant_all (x : Int) (B : Nat) (w : World) (hB : w.cell? ⟨B, 0, none⟩ = some (.int .i64 (-1))) : Calls Try.prog 29 #[.int .i64 x, .pointer (some ⟨B, 0, none⟩)] w fun r' w' => r' = .returned (.bool true) ∧ Below w.heap.size w w' := by
  go_enter Try.func29, Try.ntmps29
  go_wp2
  go_ret
  exact ⟨rfl, Below.refl _ _⟩
theorem meant2_all (x y : Int) (B X : Nat) (w : World) (hBl : B < w.heap.size) (hXl : X < w.heap.size) (hB : w.cell? ⟨B, 0, none⟩ = some (.int .i64 (-1))) (hX : w.cell? ⟨X, 0, none⟩ = some (.func (.func 29) #[] #[.pointer (some ⟨B, 0, none⟩)])) : Calls Try.prog 31 #[.agg #[.int .i64 x, .int .i64 y], .pointer (some ⟨X, 0, none⟩)] w fun r' w' => r' = .returned (.bool true) ∧ Below w.heap.size w w' := by
  go_enter Try.func31, Try.ntmps31
  go_wp2_with fail
  refine (meant_all x B _ ((World.cell?_alloc_lt w _ ⟨B, 0, none⟩ hBl).trans hB)).mono ?_
  rintro r1 w1 ⟨rfl, hb1⟩
  go_wp2
  go_ret
  exact ⟨rfl, below_alloc hb1⟩
theorem idx_empty (f : Value) (w : World) (h : Ck w P ws st gr at_ en gs v []) : Calls Try.prog 43 #[v, f] w fun r w' => r = .returned (.int .i64 (-1)) ∧ Below w.heap.size w w' := by
  obtain ⟨a, c, rfl⟩ : ∃ a c, v = .slice a 0 c := by
    rcases h.form with ⟨rfl, -⟩ | ⟨g0, cp, rfl, -⟩
    · exact ⟨none, 0, rfl⟩
    · exact ⟨_, _, rfl⟩
  clear h
  go_enter Try.func43, Try.ntmps43
  go_wp2
  go_loopw [8] (fun v8 wr => v8 = .int .i64 0 ∧ wr = w) (fun _ _ => 0)
  case atStart => exact ⟨rfl, rfl⟩
  case round =>
    obtain ⟨rfl, rfl⟩ := hrel
    go_wp2
    go_ret
    exact ⟨rfl, Below.refl _ _⟩
theorem del_empty (f : Value) (w : World) (h : Ck w P ws st gr at_ en gs v []) : Calls Try.prog 30 #[v, f] w fun r w' => r = .returned v ∧ Below w.heap.size w w' := by
  have HD := hide (idx_empty f w h)
  clear h
  go_enter Try.func30, Try.ntmps30
  go_wp2_with fail
  refine HD.out.mono ?_
  rintro r1 w1 ⟨rfl, hb1⟩
  go_wp2
  go_ret
  exact ⟨rfl, hb1⟩
set_option maxHeartbeats 2000000 in
theorem idx_all (x : Int × Int) (B X : Nat) (w : World) (h : Ck w P ws st gr at_ en gs v (x :: ks)) (hBl : B < w.heap.size) (hXl : X < w.heap.size) (hB : w.cell? ⟨B, 0, none⟩ = some (.int .i64 (-1))) (hX : w.cell? ⟨X, 0, none⟩ = some (.func (.func 29) #[] #[.pointer (some ⟨B, 0, none⟩)])) : Calls Try.prog 43 #[v, .func (.func 31) #[] #[.pointer (some ⟨X, 0, none⟩)]] w fun r w' => r = .returned (.int .i64 0) ∧ Below w.heap.size w w' := by
  have hl := h.le
  have he := h.e8
  rcases h.form with ⟨rfl, he⟩ | ⟨g0, cp, rfl, k1, k2, k3, -, k4⟩
  · cases he
  · have z0 := k4 0 (.int .i64 x.1) rfl
    have z1 := k4 1 (.int .i64 x.2) rfl
    have hlen : 0 < (x :: ks).length := by simp
    have HB := hide hB
    have HX := hide hX
    obtain ⟨n, hn⟩ : ∃ n, n = (x :: ks).length := ⟨_, rfl⟩
    rw [← hn] at hl hlen k1 ⊢
    clear h k4 hB hX hn
    go_enter Try.func43, Try.ntmps43
    go_wp2
    go_loopw [8] (fun v8 wr => v8 = .int .i64 0 ∧ wr = w) (fun _ _ => 0)
    case atStart => exact ⟨rfl, rfl⟩
    case round =>
      obtain ⟨rfl, rfl⟩ := hrel
      go_wp2_with fail
      refine (meant2_all x.1 x.2 B X _ hBl hXl HB.out HX.out).mono ?_
      rintro r1 w1 ⟨rfl, hb1⟩
      go_wp2
      go_ret
      exact ⟨rfl, hb1⟩
end
def zs (n : Nat) : List Value := (List.replicate n [Value.int .i64 0, .int .i64 0]).flatten
theorem zs_len (n : Nat) : (zs n).length = n * 2 := by simp [zs]
theorem zero_cells (n : Nat) (h : n ≤ 8) : (Builtin.zeroCells #[.int .i64 0, .int .i64 0] n).toList = zs n := by
  have e : n = 0 ∨ n = 1 ∨ n = 2 ∨ n = 3 ∨ n = 4 ∨ n = 5 ∨ n = 6 ∨ n = 7 ∨ n = 8 := by omega
  have z0 : (Builtin.zeroCells #[.int .i64 0, .int .i64 0] 0).toList = zs 0 := by kernel_rfl
  have z1 : (Builtin.zeroCells #[.int .i64 0, .int .i64 0] 1).toList = zs 1 := by kernel_rfl
  have z2 : (Builtin.zeroCells #[.int .i64 0, .int .i64 0] 2).toList = zs 2 := by kernel_rfl
  have z3 : (Builtin.zeroCells #[.int .i64 0, .int .i64 0] 3).toList = zs 3 := by kernel_rfl
  have z4 : (Builtin.zeroCells #[.int .i64 0, .int .i64 0] 4).toList = zs 4 := by kernel_rfl
  have z5 : (Builtin.zeroCells #[.int .i64 0, .int .i64 0] 5).toList = zs 5 := by kernel_rfl
  have z6 : (Builtin.zeroCells #[.int .i64 0, .int .i64 0] 6).toList = zs 6 := by kernel_rfl
  have z7 : (Builtin.zeroCells #[.int .i64 0, .int .i64 0] 7).toList = zs 7 := by kernel_rfl
  have z8 : (Builtin.zeroCells #[.int .i64 0, .int .i64 0] 8).toList = zs 8 := by kernel_rfl
  rcases e with rfl | rfl | rfl | rfl | rfl | rfl | rfl | rfl | rfl <;> assumption
theorem run_clear_n (w : World) (ty : TypeId) (b o n c : Nat) (hn : n ≤ 8) (hn1 : 1 ≤ n) (hc : ∀ j, j < n * 2 → (w.cell? ⟨b, o + j, none⟩).isSome = true) (hf : ∀ j, j < n * 2 → w.frozen? ⟨b, o + j, none⟩ = false) :
    (Builtin.clear_ #[66] ty #[.slice (some ⟨b, o, none⟩) n c]).run Try.prog w = .ok (.tuple #[]) (w.setCells b o (zs n)) := by
  obtain ⟨m, rfl⟩ : ∃ m, n = m + 1 := ⟨n - 1, by omega⟩
  have hzc := zero_cells (m + 1) hn
  have hv : ∀ w, (zeroValue 74).run Try.prog w = .ok (.agg #[.int .i64 0, .int .i64 0]) w := fun w => by kernel_rfl
  have h1 : ∀ u ∈ zs (m + 1), u.oneCell' = true := by
    intro u hu
    simp only [zs, List.mem_flatten] at hu
    obtain ⟨l, hl, hu⟩ := hu
    rw [List.eq_of_mem_replicate hl] at hu
    simp at hu
    subst hu; rfl
  have hst := run_storeCells_cells (P := Try.prog) b o (zs (m + 1)) 0 w (by simpa [zs_len] using hc) (by simpa [zs_len] using hf) h1
  simp only [Nat.add_zero] at hst
  simp [Builtin.clear_, run_underlying Try.underlying66, hv, Value.cells, hzc, hst]
section
variable {P en gs : Nat} {ws st : Bool} {gr at_ : Int} {v : Value} {ks : List (Int × Int)}
def DARel (n : Nat) (w : World) (v5 v6 : Value) (wr : World) : Prop := ∃ q : Nat, 1 ≤ q ∧ q ≤ n ∧ v5 = .int .i64 0 ∧ v6 = .int .i64 q ∧ Below w.heap.size w wr
set_option maxHeartbeats 4000000 in
theorem del_all (x : Int × Int) (B X : Nat) (g0 cp : Nat) (w : World) (h : Ck w P ws st gr at_ en gs (.slice (some ⟨g0, 0, none⟩) (x :: ks).length cp) (x :: ks)) (hcp : (x :: ks).length ≤ cp) (hBl : B < w.heap.size) (hXl : X < w.heap.size) (hgl : g0 < w.heap.size) (hB : w.cell? ⟨B, 0, none⟩ = some (.int .i64 (-1))) (hX : w.cell? ⟨X, 0, none⟩ = some (.func (.func 29) #[] #[.pointer (some ⟨B, 0, none⟩)])) : Calls Try.prog 30 #[.slice (some ⟨g0, 0, none⟩) (x :: ks).length cp, .func (.func 31) #[] #[.pointer (some ⟨X, 0, none⟩)]] w fun r w' => r = .returned (.slice (some ⟨g0, 0, none⟩) 0 cp) ∧ w'.ownsRow 0 74 2 (.slice (some ⟨g0, 0, none⟩) 0 cp) 0 [] ∧ Fr (fun k => k = g0) w w' := by
  have HD := hide (idx_all x B X w h hBl hXl hB hX)
  have HO := hide h.own
  have he := h.e8
  have hle := h.le
  have HB := hide hB
  have HX := hide hX
  have hlen := kcells_len (x :: ks)
  have hcell : ∀ j, j < (x :: ks).length → ∃ y : Int × Int, w.cell? ⟨g0, j * 2, none⟩ = some (.int .i64 y.1) ∧ w.cell? ⟨g0, j * 2 + 1, none⟩ = some (.int .i64 y.2) := by
    intro j hj
    obtain ⟨e0, e1⟩ := kcells_get (x :: ks) j _ (List.getElem?_eq_getElem hj)
    exact ⟨_, (h.own.cellAt (j * 2) (by omega)).trans e0, (h.own.cellAt (j * 2 + 1) (by omega)).trans e1⟩
  have HC := hide hcell
  have h1 : 1 ≤ (x :: ks).length := by simp
  obtain ⟨L, hL⟩ : ∃ L, L = kcells (x :: ks) := ⟨_, rfl⟩
  rw [← hL] at HO hlen
  obtain ⟨n, hn⟩ : ∃ n, n = (x :: ks).length := ⟨_, rfl⟩
  rw [← hn] at HD HO hle hlen HC h1 hcp ⊢
  have HLn := hide hlen
  clear h hB hX hcell hn hL hlen
  go_enter Try.func30, Try.ntmps30
  go_wp2_with fail
  refine HD.out.mono ?_
  rintro r1 w1 ⟨rfl, hb1⟩
  have B1 := hide hb1
  clear hb1
  go_wp2
  go_loopw [5, 6] (fun v5 v6 wr => DARel n w v5 v6 wr) (fun _ v6 _ => n - (intOf v6).toNat)
  case atStart => exact ⟨1, Nat.le_refl _, h1, rfl, rfl, B1.out⟩
  case round =>
    obtain ⟨q, hq1, hqn, rfl, rfl, hB⟩ := hrel
    have hs := hB.size
    by_cases hlt : q < n
    · obtain ⟨y, z0, z1⟩ := HC.out q hlt
      have z0 := cell_next hB hgl z0
      have z1 := cell_next hB hgl z1
      have q0 := hide (cell_next hB hBl HB.out)
      have q1 := hide (cell_next hB hXl HX.out)
      have HBw := hide hB
      clear hB
      go_wp2_with fail
      refine (meant2_all y.1 y.2 B X _ (by simp; omega) (by simp; omega) ((World.cell?_alloc_lt wr _ ⟨B, 0, none⟩ (Nat.lt_of_lt_of_le hBl hs)).trans q0.out) ((World.cell?_alloc_lt wr _ ⟨X, 0, none⟩ (Nat.lt_of_lt_of_le hXl hs)).trans q1.out)).mono ?_
      rintro r1 w2 ⟨rfl, hb2⟩
      have B2 := hide (below_step HBw.out hs (below_alloc hb2))
      clear hb2
      go_wp2
      go_roundw
      case rel => exact ⟨q + 1, by omega, by omega, rfl, int_eq (by omega), B2.out⟩
      case measure => simp [intOf]; omega
    · have hqe : q = n := by omega
      have hR := ownsRow_fr HO.out (Fr.of_below (S := fun _ => False) hB) (fun _ _ e => e)
      have HCl := hide (fun ty => run_clear_n wr ty g0 0 n cp (by omega) (by omega) (fun j hj => by rw [Nat.zero_add, hR.cellAt j hj, List.getElem?_eq_getElem (by have := HLn.out; omega)]; rfl) (fun j hj => hR.frozenAt _))
      obtain ⟨hr2, hf2⟩ := row_put (zs n) wr 0 _ hR (by rw [zs_len]; have := HLn.out; omega)
      have hr3 := row_short hr2 (m := 0) (by omega)
      simp only [Nat.zero_mul, List.take_zero] at hr3
      have HR3 := hide hr3
      have HF3 := hide ((Fr.of_below (S := fun k => k = g0) hB).trans hf2 (fun _ _ e => e))
      clear hR hr2 hf2 hr3 hB
      go_wp2_with fail
      rw [HCl.out]
      go_wp2
      go_ret
      exact ⟨rfl, HR3.out, HF3.out⟩
end
end Go.Proofs.Ytfikiophfphmbaa
