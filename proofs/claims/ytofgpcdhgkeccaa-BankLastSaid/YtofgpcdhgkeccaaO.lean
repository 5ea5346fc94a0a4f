/- find, Read, Write, word, Get, Set, walked. -/
import Derived.Test.YtofgpcdhgkeccaaN
import Derived.WalkKit
import Derived.WalkSpells
import Derived.ProofKit
import Derived.Outline
import Derived.Handy
import Derived.RowKit3
import Derived.BigQuiet
import Derived.Deep.QuietTactic
import Derived.Deep.RegionHeld3
import Derived.Deep.Draws
import Derived.RegionTactic
import Derived.BigRegion
import Derived.IntWalk
import Derived.LoopTactic
import Derived.OwnWalk
import Derived.Laws.AppendOwn
import Derived.Laws.OwnMore
import Derived.Laws.MakeOwn
import Derived.Laws.Pointers
import Derived.Maps.AppendAt
import Derived.Deep.AppendLies
import Derived.Below
namespace Go.Proofs.Ytofgpcdhgkeccaa
open Go.RowKit
set_option linter.unusedVariables false
set_option maxRecDepth 100000


theorem div_place {G j p : Nat} (hj : j < G) : (p * G + j) / G = p := by
  have hG : 0 < G := by omega
  rw [Nat.mul_comm, Nat.mul_add_div hG, Nat.div_eq_of_lt hj]; omega
theorem mod_place {G j p : Nat} (hj : j < G) : (p * G + j) % G = j := by
  rw [Nat.mul_comm, Nat.mul_add_mod, Nat.mod_eq_of_lt hj]
theorem place_of (i G : Nat) : i / G * G + i % G = i := by rw [Nat.mul_comm]; exact Nat.div_add_mod i G
theorem bank_in (q : Cfg) (i : Nat) (hi : i < q.n) (w : World) : Calls Try.prog 28 #[q.v, .int .i64 i] w fun r w' => r = .returned (.tuple #[.int .i64 ((i % q.G : Nat) : Int), .int .i64 0]) ∧ Below w.heap.size w w' := by
  have e : (i : Int) % q.g = ((i % q.G : Nat) : Int) := by rw [q.hg]; simp
  refine (bank_yes q.a q.b q.c q.d q.e q.f q.g i q.ok (by omega) (by have := q.hn; omega) w).mono ?_
  rintro r w' ⟨rfl, hb⟩
  exact ⟨by rw [e], hb⟩
theorem bank_out (q : Cfg) (x : Int) (hx : ¬ (0 ≤ x ∧ x < q.n)) (w : World) : Calls Try.prog 28 #[q.v, .int .i64 x] w fun r w' => r = .returned (.tuple #[.int .i64 0, .int .i64 10]) ∧ Below w.heap.size w w' :=
  bank_no q.a q.b q.c q.d q.e q.f q.g x q.ok (by rw [q.hn]; exact hx) w
set_option maxHeartbeats 2000000 in
theorem find_in {q : Cfg} {M K : Nat} {L : Nat → Nat} {φ : Nat → Int} (i : Nat) (hi : i < q.n) (w : World) (hT : Mem w q M K L φ) :
    Calls Try.prog 38 #[.pointer (some ⟨M, 0, none⟩), .int .i64 i] w fun r w' => r = .returned (.tuple #[.pointer (some ⟨K, i % q.G * 3, none⟩), .int .i64 ((i / q.G : Nat) : Int), .int .i64 0]) ∧ Below w.heap.size w w' := by
  have HT := hide hT
  have hg := q.hg
  have hG1 := q.G1
  have hG4 := q.G4
  have hn32 := q.n32
  have c0 := hT.c0
  have c1 := hT.c1
  have c2 := hT.c2
  have c3 := hT.c3
  have c4 := hT.c4
  have c5 := hT.c5
  have c6 := hT.c6
  clear hT
  obtain ⟨j, hj⟩ : ∃ j, i % q.G = j := ⟨_, rfl⟩
  obtain ⟨p, hp⟩ : ∃ p, i / q.G = p := ⟨_, rfl⟩
  have hjG : j < q.G := by rw [← hj]; exact Nat.mod_lt _ (by omega)
  have hpn : p ≤ i := by rw [← hp]; exact Nat.div_le_self _ _
  have HB := hide (bank_in q i hi)
  have e1 : (i : Int).tdiv q.G = (p : Int) := by rw [← hp]; simp
  have e2 : (i : Int) / q.G = (p : Int) := by rw [← hp]; simp
  rw [hj, hp]
  have HW := hide (show wrap64 ((i : Int) / q.G) = p by rw [e2]; exact IntWalk.wrap64_in p ⟨by omega, by omega⟩)
  have HG := hide hg
  have HJ := hide hj
  have HP := hide hp
  have HI := hide hi
  have E1 := hide e1
  have E2 := hide e2
  clear hj hp hg e1 e2 hi
  go_enter Try.func38, Try.ntmps38
  go_wp2_with fail
  refine (HB.out _).mono ?_
  rintro r w1 ⟨rfl, hb⟩
  rw [HJ.out]
  have hT1 := HT.out.next hb
  have d7 := hT1.c7
  have d6 := hT1.c6
  rw [HG.out] at d6
  clear c0 c1 c2 c3 c4 c5 c6 hT1
  go_wp2
  go_quiet (fail)
  go_wp2
  go_ret3
  refine ⟨?_, below_drewN hb _⟩
  show Ending.returned (.tuple #[.pointer (some ⟨K, j * 3, none⟩), .int .i64 (wrap64 (↑i / ↑q.G)), .int .i64 0]) = _
  rw [HW.out]
theorem find_out {q : Cfg} {M K : Nat} {L : Nat → Nat} {φ : Nat → Int} (x : Int) (hx : ¬ (0 ≤ x ∧ x < q.n)) (w : World) (hT : Mem w q M K L φ) :
    Calls Try.prog 38 #[.pointer (some ⟨M, 0, none⟩), .int .i64 x] w fun r w' => r = .returned (.tuple #[.pointer none, .int .i64 0, .int .i64 10]) ∧ Below w.heap.size w w' := by
  have c0 := hT.c0
  have c1 := hT.c1
  have c2 := hT.c2
  have c3 := hT.c3
  have c4 := hT.c4
  have c5 := hT.c5
  have c6 := hT.c6
  have HB := hide (bank_out q x hx)
  replace hT := hide hT
  replace hx := hide hx
  go_enter Try.func38, Try.ntmps38
  go_wp2_with fail
  refine (HB.out _).mono ?_
  rintro r w1 ⟨rfl, hb⟩
  clear c0 c1 c2 c3 c4 c5 c6
  go_wp2
  go_ret3
  exact ⟨rfl, hb⟩
theorem Mem.line {w : World} {q : Cfg} {M K : Nat} {L : Nat → Nat} {φ : Nat → Int} (h : Mem w q M K L φ) {i : Nat} (hi : i < q.n) : L (i % q.G) < w.heap.size ∧ L (i % q.G) ≠ M ∧ L (i % q.G) ≠ K ∧ w.cell? ⟨L (i % q.G), i / q.G * 2, none⟩ = some (.int .i64 (φ (i * 2))) ∧ w.cell? ⟨L (i % q.G), i / q.G * 2 + 1, none⟩ = some (.int .i64 (φ (i * 2 + 1))) ∧ w.frozen? ⟨L (i % q.G), i / q.G * 2, none⟩ = false ∧ w.frozen? ⟨L (i % q.G), i / q.G * 2 + 1, none⟩ = false := by
  have hG := q.G1
  have hj := Nat.mod_lt i (show q.G > 0 by omega)
  have e := place_of i q.G
  have k := h.lns (i % q.G) (i / q.G) hj (by omega)
  rw [e] at k
  exact k
theorem Mem.slice {w : World} {q : Cfg} {M K : Nat} {L : Nat → Nat} {φ : Nat → Int} (h : Mem w q M K L φ) {i : Nat} (hi : i < q.n) : ∃ m cp : Nat, i / q.G < m ∧ m ≤ 32 ∧ m ≤ cp ∧ cp ≤ maxLen ∧ w.cell? ⟨K, i % q.G * 3 + 2, none⟩ = some (.slice (some ⟨L (i % q.G), 0, none⟩) m cp) := by
  have hG := q.G1
  have hj := Nat.mod_lt i (show q.G > 0 by omega)
  have e := place_of i q.G
  obtain ⟨m, m32, a1, a2⟩ := h.row (i % q.G) hj
  have lt := (a1 (i / q.G)).2 (by omega)
  rcases a2 with ⟨e, a2⟩ | ⟨e, cp, x, y, a2⟩
  · rw [e] at lt; exact absurd lt (Nat.not_lt_zero _)
  · exact ⟨m, cp, lt, m32, x, y, a2⟩
theorem Mem.set {w : World} {q : Cfg} {M K : Nat} {L : Nat → Nat} {φ : Nat → Int} (h : Mem w q M K L φ) {i t : Nat} (hi : i < q.n) (ht : t < 2) (x : Int) : Mem (w.setCell ⟨L (i % q.G), i / q.G * 2 + t, none⟩ (.int .i64 x)) q M K L (upd φ (i * 2 + t) x) := by
  have hG := q.G1
  have hj := Nat.mod_lt i (show q.G > 0 by omega)
  have e := place_of i q.G
  have k := h.setWord (j := i % q.G) (p := i / q.G) hj (by omega) ht x
  rw [e] at k
  exact k
theorem two_cells {w : World} {b : Nat} {x y : Value} (h0 : w.cell? ⟨b, 0, none⟩ = some x) (h1 : w.cell? ⟨b, 1, none⟩ = some y) (u v : Value) : ((w.setCell ⟨b, 0, none⟩ u).setCell ⟨b, 1, none⟩ v).cell? ⟨b, 0, none⟩ = some u ∧ ((w.setCell ⟨b, 0, none⟩ u).setCell ⟨b, 1, none⟩ v).cell? ⟨b, 1, none⟩ = some v :=
  ⟨(setCell_cell_other (by simp)).trans (World.cell?_setCell_same' _ _ _ (by rw [h0]; rfl)), World.cell?_setCell_same' _ _ _ (by rw [setCell_cell_other (by simp), h1]; rfl)⟩
/-- A store into a block that was not there. -/
theorem Mem.aside {w0 w : World} {q : Cfg} {M K : Nat} {L : Nat → Nat} {φ ψ : Nat → Int} (h : Mem w q M K L φ) (h0 : Mem w0 q M K L ψ) {p : Addr} (hp : w0.heap.size ≤ p.block) (u : Value) : Mem (w.setCell p u) q M K L φ :=
  h.kept (S := fun k => k = p.block) ((Fr.refl (fun k => k = p.block) _).setCell (fun _ => rfl) _) (fun k hk e => by have := h0.S_lt k hk; omega)
/-- What turns where a memory's words are read: its banks' block. -/
def FrK (K : Nat) (w w' : World) : Prop := Fr (fun k => k = K) w w'
set_option maxHeartbeats 4000000 in
theorem read_in {q : Cfg} {M K : Nat} {L : Nat → Nat} {φ : Nat → Int} (i : Nat) (hi : i < q.n) (w : World) (hT : Mem w q M K L φ) :
    Calls Try.prog 21 #[.pointer (some ⟨M, 0, none⟩), .int .i64 i] w fun r w' => r = .returned (.tuple #[.agg #[.int .i64 (φ (i * 2)), .int .i64 (φ (i * 2 + 1))], .int .i64 0]) ∧ Mem w' q M K L φ ∧ Fr (fun k => k = K) w w' := by
  have HT := hide hT
  have HI := hide hi
  obtain ⟨j, hj⟩ : ∃ j, i % q.G = j := ⟨_, rfl⟩
  obtain ⟨p, hp⟩ : ∃ p, i / q.G = p := ⟨_, rfl⟩
  have hjG : j < q.G := by rw [← hj]; exact Nat.mod_lt _ (by have := q.G1; omega)
  have HJ := hide hj
  have HP := hide hp
  clear hT hi hj hp
  go_enter Try.func21, Try.ntmps21
  go_wp2_with fail
  refine (find_in i HI.out _ ((show Mem w q M K L φ from HT.out).alloc _)).mono ?_
  rintro r w1 ⟨rfl, hb⟩
  rw [HJ.out, HP.out]
  have hT1 := (HT.out.alloc _).next hb
  have hb' := below_alloc hb
  have hsz : w.heap.size < w1.heap.size := by have := hb.size; simp at this; omega
  have l0 : w1.cell? ⟨w.heap.size, 0, none⟩ = some (.int .i64 0) := cell_next hb (by simp) (by simp [go_sem])
  have l1 : w1.cell? ⟨w.heap.size, 1, none⟩ = some (.int .i64 0) := cell_next hb (by simp) (by simp [go_sem])
  have z0 : w1.frozen? ⟨w.heap.size, 0, none⟩ = false := (hb.frozen (p := ⟨w.heap.size, 0, none⟩) (by simp)).trans (by simp [go_sem])
  have z1 : w1.frozen? ⟨w.heap.size, 1, none⟩ = false := (hb.frozen (p := ⟨w.heap.size, 1, none⟩) (by simp)).trans (by simp [go_sem])
  obtain ⟨⟨r0, a0⟩, ⟨s0, b0⟩, f0, g0⟩ := hT1.cnt j hjG
  have T1 := hide hT1
  have hKne : w.heap.size ≠ K := by have := HT.out.hK; omega
  clear hb hT1
  have T2 : Hid (Mem (w1.setCell ⟨K, j * 3, none⟩ (.int .i64 (wrap64 (r0 + 1)))) q M K L φ) := hide (T1.out.setCnt (t := 0) hjG (by omega) (wrap64 (r0 + 1)))
  obtain ⟨m, cp, h1, h2, h3, h4, h5⟩ := T1.out.slice HI.out
  obtain ⟨e1, e2, e3, e4, e5, e6, e7⟩ := T1.out.line HI.out
  rw [HJ.out] at h5 e1 e2 e3 e4 e5 e6 e7
  rw [HP.out] at h1 e4 e5 e6 e7
  have h1' : (p : Int) < m := by omega
  have hLw : L j ≠ w.heap.size := by rw [← HJ.out]; have := (HT.out.line HI.out).1; omega
  go_wp2
  have l0' : (w1.setCell ⟨K, j * 3, none⟩ (.int .i64 (wrap64 (r0 + 1)))).cell? ⟨w.heap.size, 0, none⟩ = some (.int .i64 0) := (setCell_cell_other (by intro e; injection e with e1 e2; exact hKne e1)).trans l0
  have l1' : (w1.setCell ⟨K, j * 3, none⟩ (.int .i64 (wrap64 (r0 + 1)))).cell? ⟨w.heap.size, 1, none⟩ = some (.int .i64 0) := (setCell_cell_other (by intro e; injection e with e1 e2; exact hKne e1)).trans l1
  exact bodyPost_ret (v := .tuple #[.agg #[.int .i64 (φ (i * 2)), .int .i64 (φ (i * 2 + 1))], .int .i64 0]) (by simp [results, Try.results21, go_sem, (two_cells l0' l1' (.int .i64 (φ (i * 2))) (.int .i64 (φ (i * 2 + 1)))).1, (two_cells l0' l1' (.int .i64 (φ (i * 2))) (.int .i64 (φ (i * 2 + 1)))).2]) rfl ⟨rfl, (T2.out.aside HT.out (p := ⟨w.heap.size, 0, none⟩) (Nat.le_refl _) _).aside HT.out (p := ⟨w.heap.size, 1, none⟩) (Nat.le_refl _) _, (((Fr.of_below (S := fun k => k = K) hb').setCell (p := ⟨K, j * 3, none⟩) (fun _ => rfl) _).setCell (p := ⟨w.heap.size, 0, none⟩) (fun h => absurd h (Nat.lt_irrefl _)) _).setCell (p := ⟨w.heap.size, 1, none⟩) (fun h => absurd h (Nat.lt_irrefl _)) _⟩
theorem read_out {q : Cfg} {M K : Nat} {L : Nat → Nat} {φ : Nat → Int} (x : Int) (hx : ¬ (0 ≤ x ∧ x < q.n)) (w : World) (hT : Mem w q M K L φ) :
    Calls Try.prog 21 #[.pointer (some ⟨M, 0, none⟩), .int .i64 x] w fun r w' => r = .returned (.tuple #[.agg #[.int .i64 0, .int .i64 0], .int .i64 10]) ∧ Below w.heap.size w w' := by
  have HB := hide (fun W => find_out x hx W (M := M) (K := K) (L := L) (φ := φ))
  have HT := hide hT
  replace hx := hide hx
  clear hT
  go_enter Try.func21, Try.ntmps21
  go_wp2_with fail
  refine (HB.out _ (HT.out.alloc _)).mono ?_
  rintro r w1 ⟨rfl, hb⟩
  have hb' := below_alloc hb
  have hsz : w.heap.size < w1.heap.size := by have := hb.size; simp at this; omega
  have l0 : w1.cell? ⟨w.heap.size, 0, none⟩ = some (.int .i64 0) := cell_next hb (by simp) (by simp [go_sem])
  have l1 : w1.cell? ⟨w.heap.size, 1, none⟩ = some (.int .i64 0) := cell_next hb (by simp) (by simp [go_sem])
  have z0 : w1.frozen? ⟨w.heap.size, 0, none⟩ = false := (hb.frozen (p := ⟨w.heap.size, 0, none⟩) (by simp)).trans (by simp [go_sem])
  have z1 : w1.frozen? ⟨w.heap.size, 1, none⟩ = false := (hb.frozen (p := ⟨w.heap.size, 1, none⟩) (by simp)).trans (by simp [go_sem])
  clear hb
  go_wp2
  exact bodyPost_ret (v := .tuple #[.agg #[.int .i64 0, .int .i64 0], .int .i64 10]) (by simp [results, Try.results21, go_sem, (two_cells l0 l1 (.int .i64 0) (.int .i64 0)).1, (two_cells l0 l1 (.int .i64 0) (.int .i64 0)).2]) rfl ⟨rfl, (hb'.setCell (Nat.le_refl _) _).setCell (Nat.le_refl _) _⟩
set_option maxHeartbeats 4000000 in
theorem write_in {q : Cfg} {M K : Nat} {L : Nat → Nat} {φ : Nat → Int} (i : Nat) (hi : i < q.n) (x y : Int) (w : World) (hT : Mem w q M K L φ) :
    Calls Try.prog 24 #[.pointer (some ⟨M, 0, none⟩), .int .i64 i, .agg #[.int .i64 x, .int .i64 y]] w fun r w' => r = .returned (.int .i64 0) ∧ Mem w' q M K L (upd (upd φ (i * 2) x) (i * 2 + 1) y) ∧ Fr (Mem.S q M K L) w w' := by
  have HT := hide hT
  have HI := hide hi
  obtain ⟨j, hj⟩ : ∃ j, i % q.G = j := ⟨_, rfl⟩
  obtain ⟨p, hp⟩ : ∃ p, i / q.G = p := ⟨_, rfl⟩
  have hjG : j < q.G := by rw [← hj]; exact Nat.mod_lt _ (by have := q.G1; omega)
  have HS := hide (show Mem.S q M K L (L j) from .inr (.inr ⟨j, hjG, by rw [← hj]; exact Nat.lt_of_le_of_lt (Nat.mod_le _ _) hi, rfl⟩))
  have HJ := hide hj
  have HP := hide hp
  clear hT hi hj hp
  go_enter Try.func24, Try.ntmps24
  go_wp2_with fail
  refine (find_in i HI.out _ ((show Mem w q M K L φ from HT.out).alloc _)).mono ?_
  rintro r w1 ⟨rfl, hb⟩
  rw [HJ.out, HP.out]
  have hT1 := (HT.out.alloc _).next hb
  have hb' := below_alloc hb
  have l0 : w1.cell? ⟨w.heap.size, 0, none⟩ = some (.int .i64 x) := cell_next hb (by simp) (by simp [go_sem])
  have l1 : w1.cell? ⟨w.heap.size, 1, none⟩ = some (.int .i64 y) := cell_next hb (by simp) (by simp [go_sem])
  obtain ⟨⟨r0, a0⟩, ⟨s0, b0⟩, f0, g0⟩ := hT1.cnt j hjG
  have T1 := hide hT1
  have hKne : w.heap.size ≠ K := by have := HT.out.hK; omega
  clear hb hT1
  have T2 : Hid (Mem (w1.setCell ⟨K, j * 3 + 1, none⟩ (.int .i64 (wrap64 (s0 + 1)))) q M K L φ) := hide (T1.out.setCnt (t := 1) hjG (by omega) (wrap64 (s0 + 1)))
  have T3 := hide ((T2.out.set HI.out (t := 0) (by omega) x).set HI.out (t := 1) (by omega) y)
  rw [HJ.out, HP.out] at T3
  obtain ⟨m, cp, h1, h2, h3, h4, h5⟩ := T1.out.slice HI.out
  obtain ⟨e1, e2, e3, e4, e5, e6, e7⟩ := T1.out.line HI.out
  rw [HJ.out] at h5 e1 e2 e3 e4 e5 e6 e7
  rw [HP.out] at h1 e4 e5 e6 e7
  have h1' : (p : Int) < m := by omega
  have hLw : L j ≠ w.heap.size := by rw [← HJ.out]; have := (HT.out.line HI.out).1; omega
  go_wp2
  go_region
  go_wp2
  go_ret
  refine ⟨rfl, ?_, ?_⟩
  · exact mem_drew T3.out
  · exact ((((Fr.of_below (S := Mem.S q M K L) hb').setCell (p := ⟨K, j * 3 + 1, none⟩) (fun _ => .inr (.inl rfl)) _).setCell (p := ⟨L j, p * 2, none⟩) (fun _ => HS.out) _).setCell (p := ⟨L j, p * 2 + 1, none⟩) (fun _ => HS.out) _).drew
theorem write_out {q : Cfg} {M K : Nat} {L : Nat → Nat} {φ : Nat → Int} (z : Int) (hz : ¬ (0 ≤ z ∧ z < q.n)) (x y : Int) (w : World) (hT : Mem w q M K L φ) :
    Calls Try.prog 24 #[.pointer (some ⟨M, 0, none⟩), .int .i64 z, .agg #[.int .i64 x, .int .i64 y]] w fun r w' => r = .returned (.int .i64 10) ∧ Below w.heap.size w w' := by
  have HB := hide (fun W => find_out z hz W (M := M) (K := K) (L := L) (φ := φ))
  have HT := hide hT
  replace hz := hide hz
  clear hT
  go_enter Try.func24, Try.ntmps24
  go_wp2_with fail
  refine (HB.out _ (HT.out.alloc _)).mono ?_
  rintro r w1 ⟨rfl, hb⟩
  have hb' := below_alloc hb
  clear hb
  go_wp2
  go_ret
  exact ⟨rfl, hb'⟩
theorem wline_in (q : Cfg) (i : Nat) (hi : i < q.n * 2) (w : World) : Calls Try.prog 20 #[q.v, .int .i64 i] w fun r w' => r = .returned (.tuple #[.int .i64 ((i / 2 : Nat) : Int), .int .i64 ((i % 2 : Nat) : Int), .int .i64 0]) ∧ Below w.heap.size w w' := by
  refine (line_yes q.a q.b q.c q.d q.e q.f q.g i q.ok (by omega) (by have := q.hn; omega) w).mono ?_
  rintro r w' ⟨rfl, hb⟩
  exact ⟨by simp, hb⟩
theorem wline_out (q : Cfg) (x : Int) (hx : ¬ (0 ≤ x ∧ x < (q.n : Int) * 2)) (w : World) : Calls Try.prog 20 #[q.v, .int .i64 x] w fun r w' => r = .returned (.tuple #[.int .i64 0, .int .i64 0, .int .i64 10]) ∧ Below w.heap.size w w' :=
  line_no q.a q.b q.c q.d q.e q.f q.g x q.ok (by rw [q.hn]; exact hx) w
set_option maxHeartbeats 4000000 in
theorem word_in {q : Cfg} {M K : Nat} {L : Nat → Nat} {φ : Nat → Int} (i : Nat) (hi : i < q.n * 2) (w : World) (hT : Mem w q M K L φ) :
    Calls Try.prog 36 #[.pointer (some ⟨M, 0, none⟩), .int .i64 i] w fun r w' => r = .returned (.tuple #[.pointer (some ⟨L (i / 2 % q.G), i / 2 / q.G * 2 + i % 2, none⟩), .int .i64 0]) ∧ Below w.heap.size w w' := by
  have HT := hide hT
  have HI := hide hi
  have HI2 := hide (show i / 2 < q.n by omega)
  have c0 := hT.c0
  have c1 := hT.c1
  have c2 := hT.c2
  have c3 := hT.c3
  have c4 := hT.c4
  have c5 := hT.c5
  have c6 := hT.c6
  obtain ⟨t, ht⟩ : ∃ t, i % 2 = t := ⟨_, rfl⟩
  have ht2 : t < 2 := by omega
  obtain ⟨l, hl⟩ : ∃ l, i / 2 = l := ⟨_, rfl⟩
  obtain ⟨j, hj⟩ : ∃ j, l % q.G = j := ⟨_, rfl⟩
  obtain ⟨p, hp⟩ : ∃ p, l / q.G = p := ⟨_, rfl⟩
  have ht2' : (t : Int) < 2 := by omega
  have HJ := hide hj
  have HP := hide hp
  have HTT := hide ht
  have HL := hide hl
  rw [hl, ht, hj, hp]
  clear hT hi hj hp ht hl
  go_enter Try.func36, Try.ntmps36
  go_wp2_with fail
  refine (wline_in q i HI.out _).mono ?_
  rintro r w1 ⟨rfl, hb1⟩
  rw [HL.out, HTT.out]
  clear c0 c1 c2 c3 c4 c5 c6
  go_wp2_with fail
  refine (find_in l (by rw [← HL.out]; exact HI2.out) _ (HT.out.next hb1)).mono ?_
  rintro r w2 ⟨rfl, hb2⟩
  rw [HJ.out, HP.out]
  have hT2 := (HT.out.next hb1).next hb2
  have hb := below_step hb1 hb1.size hb2
  obtain ⟨m, cp, h1, h2, h3, h4, h5⟩ := hT2.slice (i := l) (by rw [← HL.out]; exact HI2.out)
  rw [HJ.out] at h5
  rw [HP.out] at h1
  have h1' : (p : Int) < m := by omega
  clear hT2 hb1 hb2
  go_wp2
  go_ret2
  exact ⟨rfl, hb⟩
theorem word_out {q : Cfg} {M K : Nat} {L : Nat → Nat} {φ : Nat → Int} (x : Int) (hx : ¬ (0 ≤ x ∧ x < (q.n : Int) * 2)) (w : World) (hT : Mem w q M K L φ) :
    Calls Try.prog 36 #[.pointer (some ⟨M, 0, none⟩), .int .i64 x] w fun r w' => r = .returned (.tuple #[.pointer none, .int .i64 10]) ∧ Below w.heap.size w w' := by
  have HB := hide (fun W => wline_out q x hx W)
  have c0 := hT.c0
  have c1 := hT.c1
  have c2 := hT.c2
  have c3 := hT.c3
  have c4 := hT.c4
  have c5 := hT.c5
  have c6 := hT.c6
  replace hT := hide hT
  replace hx := hide hx
  go_enter Try.func36, Try.ntmps36
  go_wp2_with fail
  refine (HB.out _).mono ?_
  rintro r w1 ⟨rfl, hb⟩
  clear c0 c1 c2 c3 c4 c5 c6
  go_wp2
  go_ret2
  exact ⟨rfl, hb⟩
theorem Mem.wcell {w : World} {q : Cfg} {M K : Nat} {L : Nat → Nat} {φ : Nat → Int} (h : Mem w q M K L φ) {i : Nat} (hi : i < q.n * 2) : L (i / 2 % q.G) < w.heap.size ∧ w.cell? ⟨L (i / 2 % q.G), i / 2 / q.G * 2 + i % 2, none⟩ = some (.int .i64 (φ i)) ∧ w.frozen? ⟨L (i / 2 % q.G), i / 2 / q.G * 2 + i % 2, none⟩ = false := by
  obtain ⟨e1, e2, e3, e4, e5, e6, e7⟩ := h.line (i := i / 2) (by omega)
  have : i % 2 = 0 ∨ i % 2 = 1 := by omega
  rcases this with e | e
  · have hh : i / 2 * 2 = i := by omega
    rw [hh] at e4
    rw [e]
    exact ⟨e1, e4, e6⟩
  · have hh : i / 2 * 2 + 1 = i := by omega
    rw [hh] at e5
    rw [e]
    exact ⟨e1, e5, e7⟩
theorem Mem.wset {w : World} {q : Cfg} {M K : Nat} {L : Nat → Nat} {φ : Nat → Int} (h : Mem w q M K L φ) {i : Nat} (hi : i < q.n * 2) (x : Int) : Mem (w.setCell ⟨L (i / 2 % q.G), i / 2 / q.G * 2 + i % 2, none⟩ (.int .i64 x)) q M K L (upd φ i x) := by
  have k := h.set (i := i / 2) (t := i % 2) (by omega) (by omega) x
  have hh : i / 2 * 2 + i % 2 = i := by omega
  rw [hh] at k
  exact k
theorem get_in {q : Cfg} {M K : Nat} {L : Nat → Nat} {φ : Nat → Int} (i : Nat) (hi : i < q.n * 2) (w : World) (hT : Mem w q M K L φ) :
    Calls Try.prog 19 #[.pointer (some ⟨M, 0, none⟩), .int .i64 i] w fun r w' => r = .returned (.tuple #[.int .i64 (φ i), .int .i64 0]) ∧ Below w.heap.size w w' := by
  have HT := hide hT
  have HI := hide hi
  clear hT hi
  go_enter Try.func19, Try.ntmps19
  go_wp2_with fail
  refine (word_in i HI.out _ HT.out).mono ?_
  rintro r w1 ⟨rfl, hb⟩
  obtain ⟨e1, e2, e3⟩ := (HT.out.next hb).wcell HI.out
  go_wp2
  go_ret2
  exact ⟨rfl, hb⟩
theorem get_out {q : Cfg} {M K : Nat} {L : Nat → Nat} {φ : Nat → Int} (x : Int) (hx : ¬ (0 ≤ x ∧ x < (q.n : Int) * 2)) (w : World) (hT : Mem w q M K L φ) :
    Calls Try.prog 19 #[.pointer (some ⟨M, 0, none⟩), .int .i64 x] w fun r w' => r = .returned (.tuple #[.int .i64 0, .int .i64 10]) ∧ Below w.heap.size w w' := by
  have HB := hide (fun W => word_out x hx W (M := M) (K := K) (L := L) (φ := φ))
  have HT := hide hT
  replace hx := hide hx
  clear hT
  go_enter Try.func19, Try.ntmps19
  go_wp2_with fail
  refine (HB.out _ HT.out).mono ?_
  rintro r w1 ⟨rfl, hb⟩
  go_wp2
  go_ret2
  exact ⟨rfl, hb⟩
theorem set_in {q : Cfg} {M K : Nat} {L : Nat → Nat} {φ : Nat → Int} (i : Nat) (hi : i < q.n * 2) (x : Int) (w : World) (hT : Mem w q M K L φ) :
    Calls Try.prog 17 #[.pointer (some ⟨M, 0, none⟩), .int .i64 i, .int .i64 x] w fun r w' => r = .returned (.int .i64 0) ∧ Mem w' q M K L (upd φ i x) ∧ Fr (Mem.S q M K L) w w' := by
  have HT := hide hT
  have HI := hide hi
  have HS := hide (show Mem.S q M K L (L (i / 2 % q.G)) from .inr (.inr ⟨i / 2 % q.G, Nat.mod_lt _ (by have := q.G1; omega), Nat.lt_of_le_of_lt (Nat.mod_le _ _) (by omega), rfl⟩))
  clear hT hi
  go_enter Try.func17, Try.ntmps17
  go_wp2_with fail
  refine (word_in i HI.out _ HT.out).mono ?_
  rintro r w1 ⟨rfl, hb⟩
  obtain ⟨e1, e2, e3⟩ := (HT.out.next hb).wcell HI.out
  go_wp2
  go_ret
  exact ⟨rfl, (HT.out.next hb).wset HI.out x, (Fr.of_below (S := Mem.S q M K L) hb).setCell (p := ⟨L (i / 2 % q.G), i / 2 / q.G * 2 + i % 2, none⟩) (fun _ => HS.out) _⟩
theorem set_out {q : Cfg} {M K : Nat} {L : Nat → Nat} {φ : Nat → Int} (z : Int) (hz : ¬ (0 ≤ z ∧ z < (q.n : Int) * 2)) (x : Int) (w : World) (hT : Mem w q M K L φ) :
    Calls Try.prog 17 #[.pointer (some ⟨M, 0, none⟩), .int .i64 z, .int .i64 x] w fun r w' => r = .returned (.int .i64 10) ∧ Below w.heap.size w w' := by
  have HB := hide (fun W => word_out z hz W (M := M) (K := K) (L := L) (φ := φ))
  have HT := hide hT
  replace hz := hide hz
  clear hT
  go_enter Try.func17, Try.ntmps17
  go_wp2_with fail
  refine (HB.out _ HT.out).mono ?_
  rintro r w1 ⟨rfl, hb⟩
  go_wp2
  go_ret
  exact ⟨rfl, hb⟩
end Go.Proofs.Ytofgpcdhgkeccaa
