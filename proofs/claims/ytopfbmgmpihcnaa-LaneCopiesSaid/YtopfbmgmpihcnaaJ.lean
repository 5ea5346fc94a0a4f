/- The chapter's example, walked. -/
import Derived.Test.YtopfbmgmpihcnaaI
import Derived.WalkKit
import Derived.WalkSpells
import Derived.ProofKit
import Derived.Outline
import Derived.Handy
import Derived.RowKit3
import Derived.BigQuiet
import Derived.Deep.QuietTactic
import Derived.Deep.RegionHeld3
import Derived.Deep.Draws
import Derived.Deep.RegionLaw
import Derived.RegionTactic
import Derived.BigRegion
import Derived.IntWalk
import Derived.LoopTactic
import Derived.OwnWalk
import Derived.Laws.AppendOwn
import Derived.Laws.OwnMore
import Derived.Laws.MakeOwn
import Derived.Laws.Pointers
import Derived.Maps.AppendAt
import Derived.Deep.AppendLies
import Derived.Below
namespace Go.Proofs.Ytopfbmgmpihcnaa
open Go.RowKit
set_option linter.unusedVariables false
set_option maxRecDepth 100000


def na : Nt := ⟨4, 0, 1, 0, 0, 0, 0, false, 0⟩
def nb : Nt := ⟨4, 0, 2, 0, 0, 0, 0, false, 0⟩
theorem src_new (W : World) (ms : List Nt) (cs : Array Value) (hcs : cs = (cellsOf ms).toArray) (hm : ms.length ≤ maxLen) : Src (W.alloc (.cells cs 51)) (.slice (some ⟨W.heap.size, 0, none⟩) ms.length ms.length) ms := by
  refine .inr ⟨_, 0, _, rfl, Nat.le_refl _, hm, fun _ => by simp, fun j u hu => ?_⟩
  rw [Nat.zero_add, World.cell?_alloc_new W cs 51 j, hcs]
  simpa using hu
/-- What the walk of awake holds on to. -/
structure Aw (w0 w : World) (P A B : Nat) (v : Value) (ns : List Nt) : Prop where
  la : La w P 2 v ns
  a : NtAt w A 0 na
  b : NtAt w B 0 nb
  hA : A < w.heap.size
  hB : B < w.heap.size
  nA : ¬ La.S P v A
  nB : ¬ La.S P v B
  low : ∀ k, La.S P v k → w0.heap.size ≤ k
  bel : Below w0.heap.size w0 w
theorem Aw.step {w0 w w' : World} {P A B : Nat} {v v' : Value} {ns ms : List Nt} (h : Aw w0 w P A B v ns) (hl : La w' P 2 v' ms) (f : Fr (La.S P v) w w') (hn : ∀ k, La.S P v' k → k = P ∨ La.S P v k ∨ w.heap.size ≤ k) : Aw w0 w' P A B v' ms :=
  have hA := h.hA
  have hB := h.hB
  ⟨hl, h.a.fr f h.hA h.nA, h.b.fr f h.hB h.nB, Nat.lt_of_lt_of_le h.hA f.size, Nat.lt_of_lt_of_le h.hB f.size,
    fun e => by
      rcases hn _ e with e | e | e
      · exact h.nA (.inl e)
      · exact h.nA e
      · omega,
    fun e => by
      rcases hn _ e with e | e | e
      · exact h.nB (.inl e)
      · exact h.nB e
      · omega,
    fun k e => by
      rcases hn _ e with e | e | e
      · exact h.low k (.inl e)
      · exact h.low k e
      · exact Nat.le_trans h.bel.size e,
    h.bel.trans (f.below h.bel.size (fun i hi e => by have := h.low i e; omega))⟩
theorem Aw.next {w0 w w' : World} {P A B : Nat} {v : Value} {ns : List Nt} (h : Aw w0 w P A B v ns) (b : Below w.heap.size w w') : Aw w0 w' P A B v ns :=
  ⟨h.la.next b, h.a.fr (Fr.of_below (S := fun _ => False) b) h.hA id, h.b.fr (Fr.of_below (S := fun _ => False) b) h.hB id, Nat.lt_of_lt_of_le h.hA b.size, Nat.lt_of_lt_of_le h.hB b.size, h.nA, h.nB, h.low, h.bel.trans (b.mono h.bel.size)⟩
theorem Aw.start {w0 w : World} {P : Nat} (h : La w P 2 (.slice none 0 0) []) (hP : w0.heap.size ≤ P) (b : Below w0.heap.size w0 w) : Aw w0 ((w.alloc (.cells na.arr 51)).alloc (.cells nb.arr 51)) P w.heap.size (w.heap.size + 1) (.slice none 0 0) [] := by
  have hPl := h.hP
  have nn : ∀ k, La.S P (.slice none 0 0) k → k = P := by
    rintro k (e | e)
    · exact e
    · cases e
  have b1 : Below w.heap.size w (w.alloc (.cells na.arr 51)) := (Below.refl _ _).alloc (Nat.le_refl _) _
  have b2 : Below (w.alloc (.cells na.arr 51)).heap.size (w.alloc (.cells na.arr 51)) ((w.alloc (.cells na.arr 51)).alloc (.cells nb.arr 51)) := (Below.refl _ _).alloc (Nat.le_refl _) _
  have e1 : (w.alloc (.cells na.arr 51)).heap.size = w.heap.size + 1 := by simp
  have k2 := (ntw_new (w.alloc (.cells na.arr 51)) nb 51).c
  rw [e1] at k2
  exact ⟨(h.next b1).next b2, (ntw_new w na 51).c.fr (Fr.of_below (S := fun _ => False) b2) (by simp) id, k2, by simp; omega, by simp, fun e => by have := nn _ e; omega, fun e => by have := nn _ e; omega, fun k e => by rw [nn k e]; exact hP, (b.trans (b1.mono b.size)).trans (b2.mono (by have := b.size; simp; omega))⟩
def Stp (w w' : World) (P : Nat) (v v' : Value) : Prop := Fr (La.S P v) w w' ∧ ∀ k, La.S P v' k → k = P ∨ La.S P v k ∨ w.heap.size ≤ k
structure Kx (w : World) (P : Nat) (v : Value) (X : Nat) (x : Nt) : Prop where
  at0 : NtAt w X 0 x
  lt : X < w.heap.size
  no : ¬ La.S P v X
theorem Kx.step {w w' : World} {P : Nat} {v v' : Value} {X : Nat} {x : Nt} (h : Kx w P v X x) (s : Stp w w' P v v') : Kx w' P v' X x :=
  ⟨h.at0.fr s.1 h.lt h.no, Nat.lt_of_lt_of_le h.lt s.1.size, fun e => by
    have hl := h.lt
    rcases s.2 _ e with e | e | e
    · exact h.no (.inl e)
    · exact h.no e
    · omega⟩
theorem Kx.next {w w' : World} {P : Nat} {v : Value} {X : Nat} {x : Nt} (h : Kx w P v X x) (b : Below w.heap.size w w') : Kx w' P v X x :=
  ⟨h.at0.fr (Fr.of_below (S := fun _ => False) b) h.lt id, Nat.lt_of_lt_of_le h.lt b.size, h.no⟩
theorem Kx.new {w : World} {P d : Nat} {v : Value} {ns : List Nt} (h : La w P d v ns) (x : Nt) : Kx (w.alloc (.cells x.arr 51)) P v w.heap.size x :=
  ⟨(ntw_new w x 51).c, by simp, fun e => by have := h.lt _ e; omega⟩
theorem put_aw {w0 W : World} {P A B : Nat} {v : Value} {ns : List Nt} (h : Aw w0 W P A B v ns) (ms : List Nt) (cs : Array Value) (hcs : cs = (cellsOf ms).toArray) (hm : ms.length ≤ maxLen) (g n : Nat) (hg : W.heap.size = g) (hn : ms.length = n) (hfit : ns.length + ms.length ≤ 2) :
    Calls Try.prog 16 #[.pointer (some ⟨P, 0, none⟩), .slice (some ⟨g, 0, none⟩) n n] (W.alloc (.cells cs 51)) fun r w' => r = .returned (.int .i64 0) ∧ ∃ v', Aw w0 w' P A B v' (ns ++ ms) ∧ Stp (W.alloc (.cells cs 51)) w' P v v' := by
  subst hg hn
  have h1 := h.next ((Below.refl _ _).alloc (Nat.le_refl _) (.cells cs 51))
  refine (put_ok hfit _ h1.la (src_new W ms cs hcs hm)).mono ?_
  rintro r w' ⟨rfl, v', k1, k2, k3⟩
  exact ⟨rfl, v', h1.step k1 k2 (fun k e => .inr (k3 k e)), k2, fun k e => .inr (k3 k e)⟩
theorem full_aw {w0 W : World} {P A B : Nat} {v : Value} {ns : List Nt} (h : Aw w0 W P A B v ns) (ms : List Nt) (cs : Array Value) (hcs : cs = (cellsOf ms).toArray) (hm : ms.length ≤ 1000) (hm2 : ms.length ≤ maxLen) (g n : Nat) (hg : W.heap.size = g) (hn : ms.length = n) (hfit : ¬ ns.length + ms.length ≤ 2) :
    Calls Try.prog 16 #[.pointer (some ⟨P, 0, none⟩), .slice (some ⟨g, 0, none⟩) n n] (W.alloc (.cells cs 51)) fun r w' => r = .returned (.int .i64 11) ∧ Aw w0 w' P A B v ns := by
  subst hg hn
  have h1 := h.next ((Below.refl _ _).alloc (Nat.le_refl _) (.cells cs 51))
  refine (put_full hfit hm _ h1.la (src_new W ms cs hcs hm2)).mono ?_
  rintro r w' ⟨rfl, k⟩
  exact ⟨rfl, h1.next k⟩
theorem take_aw {w0 W : World} {P A B : Nat} {v : Value} {ns : List Nt} (h : Aw w0 W P A B v ns) (z : Int) (a : Nat) (x : Nt) (ha : (z % (ns.length : Int)) = (a : Int)) (hx : ns[a]? = some x) :
    Calls Try.prog 18 #[.pointer (some ⟨P, 0, none⟩), .int .i64 z] W fun r w' => r = .returned (.tuple #[x.v, .int .i64 0]) ∧ ∃ v', Aw w0 w' P A B v' (ns.eraseIdx a) ∧ Stp W w' P v v' := by
  refine (take_some z a x ha hx W h.la).mono ?_
  rintro r w' ⟨rfl, v', k1, k2, k3⟩
  have k4 : ∀ k, La.S P v' k → k = P ∨ La.S P v k ∨ W.heap.size ≤ k := fun k e => (k3 k e).elim .inl (fun h => .inr (.inr h))
  exact ⟨rfl, v', h.step k1 k2 k4, k2, k4⟩
set_option maxHeartbeats 8000000 in
theorem awake_yes (w : World) : Calls Try.prog 8 #[] w fun r w' => r = .returned (.bool true) ∧ Below w.heap.size w w' := by
  have ea : ∀ W, (binOp BinOp.eql 51 (.agg #[.int .i64 4, .int .i64 0, .int .i64 1, .int .i64 0, .int .i64 0, .int .i64 0, .int .i64 0, .bool false, .int .i64 0]) (.agg #[.int .i64 4, .int .i64 0, .int .i64 1, .int .i64 0, .int .i64 0, .int .i64 0, .int .i64 0, .bool false, .int .i64 0])).run Try.prog W = .ok (.bool true) W := fun W => (note_eql na na W).trans (by rw [Nt.same_refl])
  have eb : ∀ W, (binOp BinOp.eql 51 (.agg #[.int .i64 4, .int .i64 0, .int .i64 2, .int .i64 0, .int .i64 0, .int .i64 0, .int .i64 0, .bool false, .int .i64 0]) (.agg #[.int .i64 4, .int .i64 0, .int .i64 2, .int .i64 0, .int .i64 0, .int .i64 0, .int .i64 0, .bool false, .int .i64 0])).run Try.prog W = .ok (.bool true) W := fun W => (note_eql nb nb W).trans (by rw [Nt.same_refl])
  have ea2 : ∀ W, (binOp BinOp.eql 51 na.v (.agg #[.int .i64 4, .int .i64 0, .int .i64 1, .int .i64 0, .int .i64 0, .int .i64 0, .int .i64 0, .bool false, .int .i64 0])).run Try.prog W = .ok (.bool true) W := fun W => (note_eql na na W).trans (by rw [Nt.same_refl])
  have hmx : 1000 ≤ maxLen := by unfold maxLen; omega
  go_enter Try.func8, Try.ntmps8
  go_wp2_with fail
  refine (new_yes 2 (by omega) (by omega) w).mono ?_
  rintro r w1 ⟨P, rfl, hl, hP, hb⟩
  have A0 := hide (Aw.start hl hP hb)
  clear hl hb
  go_wp2_with fail
  refine (put_aw A0.out [na, nb] _ (by rfl) (by simp; omega) _ 2 (by simp) rfl (by simp)).mono ?_
  rintro r w2 ⟨rfl, v2, h2, -⟩
  have A2 := hide h2
  obtain ⟨a0, a1, a2, a3, a4, a5, a6, a7, a8⟩ := h2.a
  simp only [na] at a0 a1 a2 a3 a4 a5 a6 a7 a8
  clear h2
  go_wp2_with fail
  refine (full_aw A2.out [na] _ (by rfl) (by simp) (by simp; omega) _ 1 (by simp) rfl (by simp)).mono ?_
  rintro r w3 ⟨rfl, h3⟩
  have A3 := hide h3
  clear a0 a1 a2 a3 a4 a5 a6 a7 a8 h3
  go_wp2_with fail
  refine (take_aw A3.out (-1) 1 nb (by decide) rfl).mono ?_
  rintro r w4 ⟨rfl, v4, h4, -⟩
  have A4 := hide (h4.next ((Below.refl _ _).alloc (Nat.le_refl _) (.cells nb.arr 51)))
  have X4 := hide (Kx.new h4.la nb)
  obtain ⟨b0, b1, b2, b3, b4, b5, b6, b7, b8⟩ := h4.b
  simp only [nb] at b0 b1 b2 b3 b4 b5 b6 b7 b8
  have hBl := h4.hB
  have hBn : ¬ w4.heap.size = w1.heap.size + 1 := by omega
  clear h4
  go_wp2_with fail
  refine (put_aw A4.out [nb] _ (by rfl) (by simp; omega) _ 1 (by simp) rfl (by simp)).mono ?_
  rintro r w5 ⟨rfl, v5, h5, s5⟩
  have A5 := hide h5
  have X5 := hide ((X4.out.next ((Below.refl _ _).alloc (Nat.le_refl _) _)).step s5)
  clear b0 b1 b2 b3 b4 b5 b6 b7 b8 h5 s5 hBl hBn
  go_wp2_with fail
  refine (take_aw A5.out 2 0 na (by decide) rfl).mono ?_
  rintro r w6 ⟨rfl, v6, h6, s6⟩
  have A7 := hide (show Aw w (w6.alloc (.cells na.arr 51)) P w1.heap.size (w1.heap.size + 1) v6 [nb] from h6.next ((Below.refl _ _).alloc (Nat.le_refl _) (.cells na.arr 51)))
  have X6 := X5.out.step s6
  obtain ⟨a0, a1, a2, a3, a4, a5, a6, a7, a8⟩ := h6.a
  obtain ⟨b0, b1, b2, b3, b4, b5, b6, b7, b8⟩ := h6.b
  obtain ⟨x0, x1, x2, x3, x4, x5, x6, x7, x8⟩ := X6.at0
  simp only [na, nb] at a0 a1 a2 a3 a4 a5 a6 a7 a8 b0 b1 b2 b3 b4 b5 b6 b7 b8 x0 x1 x2 x3 x4 x5 x6 x7 x8
  have hAn : ¬ w6.heap.size = w1.heap.size := by have := h6.hA; omega
  have hBn : ¬ w6.heap.size = w1.heap.size + 1 := by have := h6.hB; omega
  have hXn : ¬ w6.heap.size = w4.heap.size := by have := X6.lt; omega
  have hAm : ¬ w1.heap.size = w6.heap.size := by omega
  have hBm : ¬ w1.heap.size + 1 = w6.heap.size := by omega
  have hXm : ¬ w4.heap.size = w6.heap.size := by omega
  have hAl : w1.heap.size < w6.heap.size := h6.hA
  have hBl : w1.heap.size + 1 < w6.heap.size := h6.hB
  have hXl : w4.heap.size < w6.heap.size := X6.lt
  clear h6 s6 X6
  go_wp2_with fail
  refine (len_any _ A7.out.la).mono ?_
  rintro r w8 ⟨hr, hb8⟩
  obtain rfl : r = .returned (.int .i64 1) := hr
  have A8 := hide (A7.out.next hb8)
  clear hb8
  go_wp2_with fail
  refine (room_any _ A8.out.la).mono ?_
  rintro r w9 ⟨hr, hb9⟩
  obtain rfl : r = .returned (.int .i64 1) := hr
  have A9 := hide (A8.out.next hb9)
  clear hb9
  go_wp2
  go_ret
  exact ⟨rfl, A9.out.bel⟩
end Go.Proofs.Ytopfbmgmpihcnaa
