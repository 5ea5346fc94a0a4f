/- What a call leaves, with both memories. -/
import Derived.Test.YtofgpcdhgkeccaaW
import Derived.WalkKit
import Derived.WalkSpells
import Derived.ProofKit
import Derived.Outline
import Derived.Handy
import Derived.RowKit3
import Derived.BigQuiet
import Derived.Deep.QuietTactic
import Derived.Deep.RegionHeld3
import Derived.Deep.Draws
import Derived.Deep.RegionLaw
import Derived.RegionTactic
import Derived.BigRegion
import Derived.IntWalk
import Derived.LoopTactic
import Derived.OwnWalk
import Derived.Laws.AppendOwn
import Derived.Laws.OwnMore
import Derived.Laws.MakeOwn
import Derived.Laws.Pointers
import Derived.Maps.AppendAt
import Derived.Deep.AppendLies
import Derived.Below
namespace Go.Proofs.Ytofgpcdhgkeccaa
open Go.RowKit
set_option linter.unusedVariables false
set_option maxRecDepth 100000


/-- Both memories stand, apart, below n0, and nothing else of w0 has turned. -/
structure DS (n0 : Nat) (w0 : World) (q : Cfg) (M K : Nat) (L : Nat → Nat) (R E : Nat) (W : World) : Prop where
  mem : ∃ φ, Mem W q M K L φ
  ref : ∃ ρ, Rf W q R E ρ
  fr : Fr (fun k => Mem.S q M K L k ∨ Rf.S R E k) w0 W
  ap : ∀ k, Mem.S q M K L k → ¬ Rf.S R E k
  lm : ∀ k, Mem.S q M K L k → k < n0
  lr : ∀ k, Rf.S R E k → k < n0
theorem DS.cell {n0 : Nat} {w0 W : World} {q : Cfg} {M K R E : Nat} {L : Nat → Nat} (h : DS n0 w0 q M K L R E W) {p o : Nat} {v : Value} (hp : p < w0.heap.size) (hn : n0 ≤ p) (hc : w0.cell? ⟨p, o, none⟩ = some v) : W.cell? ⟨p, o, none⟩ = some v :=
  (h.fr.cell hp (fun hs => by rcases hs with hs | hs; (have := h.lm _ hs; omega); (have := h.lr _ hs; omega))).trans hc
theorem DS.next {n0 : Nat} {w0 W W' : World} {q : Cfg} {M K R E : Nat} {L : Nat → Nat} (h : DS n0 w0 q M K L R E W) (hb : Below W.heap.size W W') : DS n0 w0 q M K L R E W' :=
  ⟨h.mem.imp fun _ m => m.next hb, h.ref.imp fun _ m => m.next hb, h.fr.trans (Fr.of_below (S := fun _ => False) hb) (fun _ _ h => h.elim), h.ap, h.lm, h.lr⟩
theorem DS.toMem {n0 : Nat} {w0 W W' : World} {q : Cfg} {M K R E : Nat} {L : Nat → Nat} {φ : Nat → Int} (h : DS n0 w0 q M K L R E W) (m : Mem W' q M K L φ) (f : Fr (Mem.S q M K L) W W') : DS n0 w0 q M K L R E W' :=
  ⟨⟨φ, m⟩, h.ref.imp fun _ r => r.kept f (fun hs => h.ap _ hs (.inl rfl)) (fun hs => h.ap _ hs (.inr rfl)), h.fr.trans f (fun _ _ h => .inl h), h.ap, h.lm, h.lr⟩
theorem DS.toRef {n0 : Nat} {w0 W W' : World} {q : Cfg} {M K R E : Nat} {L : Nat → Nat} {ρ : Nat → Int} (h : DS n0 w0 q M K L R E W) (m : Rf W' q R E ρ) (f : Fr (Rf.S R E) W W') : DS n0 w0 q M K L R E W' :=
  ⟨h.mem.imp fun _ m => m.kept f (fun k hk hs => h.ap _ hk hs), ⟨ρ, m⟩, h.fr.trans f (fun _ _ h => .inr h), h.ap, h.lm, h.lr⟩
theorem DS.drewN {n0 : Nat} {w0 W : World} {q : Cfg} {M K R E : Nat} {L : Nat → Nat} (h : DS n0 w0 q M K L R E W) (n : Nat) : DS n0 w0 q M K L R E (W.drewN n) := h.next (below_drewN (Below.refl _ _) n)
theorem int_nat {z : Int} {n : Nat} (h : 0 ≤ z ∧ z < n) : ∃ i : Nat, z = (i : Int) ∧ i < n := ⟨z.toNat, by omega, by omega⟩
section
variable {n0 : Nat} {w0 W : World} {q : Cfg} {M K R E : Nat} {L : Nat → Nat}
theorem ds_read (z : Int) (h : DS n0 w0 q M K L R E W) : Calls Try.prog 21 #[.pointer (some ⟨M, 0, none⟩), .int .i64 z] W fun r w' => (∃ x y e, r = .returned (.tuple #[.agg #[.int .i64 x, .int .i64 y], .int .i64 e])) ∧ DS n0 w0 q M K L R E w' ∧ Fr (fun k => k < n0) W w' := by
  obtain ⟨φ, m⟩ := h.mem
  by_cases hz : 0 ≤ z ∧ z < q.n
  · obtain ⟨i, rfl, hi⟩ := int_nat hz
    exact (read_in i hi W m).mono fun r w' ⟨e, m', f⟩ => ⟨⟨_, _, _, e⟩, h.toMem m' (f.mono (fun k _ hk => .inr (.inl hk))), f.mono (fun k _ hk => h.lm k (.inr (.inl hk)))⟩
  · exact (read_out z hz W m).mono fun r w' ⟨e, hb⟩ => ⟨⟨_, _, _, e⟩, h.next hb, Fr.of_below hb⟩
theorem ds_write (z x y : Int) (h : DS n0 w0 q M K L R E W) : Calls Try.prog 24 #[.pointer (some ⟨M, 0, none⟩), .int .i64 z, .agg #[.int .i64 x, .int .i64 y]] W fun r w' => (∃ e, r = .returned (.int .i64 e)) ∧ DS n0 w0 q M K L R E w' ∧ Fr (fun k => k < n0) W w' := by
  obtain ⟨φ, m⟩ := h.mem
  by_cases hz : 0 ≤ z ∧ z < q.n
  · obtain ⟨i, rfl, hi⟩ := int_nat hz
    exact (write_in i hi x y W m).mono fun r w' ⟨e, m', f⟩ => ⟨⟨_, e⟩, h.toMem m' f, f.mono (fun k _ hk => h.lm k hk)⟩
  · exact (write_out z hz x y W m).mono fun r w' ⟨e, hb⟩ => ⟨⟨_, e⟩, h.next hb, Fr.of_below hb⟩
theorem ds_set (z x : Int) (h : DS n0 w0 q M K L R E W) : Calls Try.prog 17 #[.pointer (some ⟨M, 0, none⟩), .int .i64 z, .int .i64 x] W fun r w' => (∃ e, r = .returned (.int .i64 e)) ∧ DS n0 w0 q M K L R E w' ∧ Fr (fun k => k < n0) W w' := by
  obtain ⟨φ, m⟩ := h.mem
  by_cases hz : 0 ≤ z ∧ z < (q.n : Int) * 2
  · obtain ⟨i, rfl, hi⟩ := int_nat (z := z) (n := q.n * 2) (by omega)
    exact (set_in i hi x W m).mono fun r w' ⟨e, m', f⟩ => ⟨⟨_, e⟩, h.toMem m' f, f.mono (fun k _ hk => h.lm k hk)⟩
  · exact (set_out z hz x W m).mono fun r w' ⟨e, hb⟩ => ⟨⟨_, e⟩, h.next hb, Fr.of_below hb⟩
theorem ds_scrub (z : Int) (h : DS n0 w0 q M K L R E W) : Calls Try.prog 23 #[.pointer (some ⟨M, 0, none⟩), .int .i64 z] W fun r w' => (∃ e, r = .returned (.int .i64 e)) ∧ DS n0 w0 q M K L R E w' ∧ Fr (fun k => k < n0) W w' := by
  obtain ⟨φ, m⟩ := h.mem
  by_cases h0 : z < 0
  · exact (scrub_neg z h0 W m).mono fun r w' ⟨e, m', f⟩ => ⟨⟨_, e⟩, h.toMem m' f, f.mono (fun k _ hk => h.lm k hk)⟩
  · by_cases h1 : (q.n : Int) ≤ z * 2
    · exact (scrub_much z h1 W m).mono fun r w' ⟨e, m', f⟩ => ⟨⟨_, e⟩, h.toMem m' f, f.mono (fun k _ hk => h.lm k hk)⟩
    · obtain ⟨i, rfl, hi⟩ := int_nat (z := z) (n := q.n) (by omega)
      exact (scrub_in i (by omega) W m).mono fun r w' ⟨e, m', f⟩ => ⟨⟨_, e⟩, h.toMem m' f, f.mono (fun k _ hk => h.lm k hk)⟩
theorem ds_rread (z : Int) (h : DS n0 w0 q M K L R E W) : Calls Try.prog 29 #[.pointer (some ⟨R, 0, none⟩), .int .i64 z] W fun r w' => (∃ x y b, r = .returned (.tuple #[.agg #[.int .i64 x, .int .i64 y], .bool b])) ∧ DS n0 w0 q M K L R E w' ∧ Fr (fun k => k < n0) W w' := by
  obtain ⟨ρ, m⟩ := h.ref
  by_cases hz : 0 ≤ z ∧ z < q.n
  · obtain ⟨i, rfl, hi⟩ := int_nat hz
    exact (refread_in i hi W m).mono fun r w' ⟨e, m', f⟩ => ⟨⟨_, _, _, e⟩, h.toRef m' f, f.mono (fun k _ hk => h.lr k hk)⟩
  · exact (refread_out z hz W m).mono fun r w' ⟨e, hb⟩ => ⟨⟨_, _, _, e⟩, h.next hb, Fr.of_below hb⟩
theorem ds_rwrite (z x y : Int) (h : DS n0 w0 q M K L R E W) : Calls Try.prog 31 #[.pointer (some ⟨R, 0, none⟩), .int .i64 z, .agg #[.int .i64 x, .int .i64 y]] W fun r w' => (∃ b, r = .returned (.bool b)) ∧ DS n0 w0 q M K L R E w' ∧ Fr (fun k => k < n0) W w' := by
  obtain ⟨ρ, m⟩ := h.ref
  by_cases hz : 0 ≤ z ∧ z < q.n
  · obtain ⟨i, rfl, hi⟩ := int_nat hz
    exact (refwrite_in i hi x y W m).mono fun r w' ⟨e, m', f⟩ => ⟨⟨_, e⟩, h.toRef m' f, f.mono (fun k _ hk => h.lr k hk)⟩
  · exact (refwrite_out z hz x y W m).mono fun r w' ⟨e, hb⟩ => ⟨⟨_, e⟩, h.next hb, Fr.of_below hb⟩
theorem ds_rscrub (z : Int) (h : DS n0 w0 q M K L R E W) : Calls Try.prog 32 #[.pointer (some ⟨R, 0, none⟩), .int .i64 z] W fun r w' => (∃ b, r = .returned (.bool b)) ∧ DS n0 w0 q M K L R E w' ∧ Fr (fun k => k < n0) W w' := by
  obtain ⟨ρ, m⟩ := h.ref
  by_cases hz : 0 ≤ z ∧ z * 2 < q.n
  · obtain ⟨i, rfl, hi⟩ := int_nat (z := z) (n := q.n) (by omega)
    exact (refscrub_in i (by omega) W m).mono fun r w' ⟨e, m', f⟩ => ⟨⟨_, e⟩, h.toRef m' f, f.mono (fun k _ hk => h.lr k hk)⟩
  · exact (refscrub_out z hz W m).mono fun r w' ⟨e, hb⟩ => ⟨⟨_, e⟩, h.next hb, Fr.of_below hb⟩
end
end Go.Proofs.Ytofgpcdhgkeccaa
