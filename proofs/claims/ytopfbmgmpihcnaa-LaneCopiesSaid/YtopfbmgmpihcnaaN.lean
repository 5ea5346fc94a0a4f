/- LaneParts walked. -/
import Derived.Test.YtopfbmgmpihcnaaM2
import Derived.Test.YtopfbmgmpihcnaaJ
import Derived.WalkKit
import Derived.WalkSpells
import Derived.ProofKit
import Derived.Outline
import Derived.Handy
import Derived.RowKit3
import Derived.BigQuiet
import Derived.Deep.QuietTactic
import Derived.Deep.RegionHeld3
import Derived.Deep.Draws
import Derived.Deep.RegionLaw
import Derived.RegionTactic
import Derived.BigRegion
import Derived.IntWalk
import Derived.LoopTactic
import Derived.OwnWalk
import Derived.Laws.AppendOwn
import Derived.Laws.OwnMore
import Derived.Laws.MakeOwn
import Derived.Laws.Pointers
import Derived.Maps.AppendAt
import Derived.Deep.AppendLies
import Derived.Below
namespace Go.Proofs.Ytopfbmgmpihcnaa
open Go.RowKit
set_option linter.unusedVariables false
set_option maxRecDepth 100000

/-- A slice of notes that lies below B. -/
def SrcB (w : World) (B : Nat) (v : Value) (ns : List Nt) : Prop := SrcE w v ns ∧ (ns ≠ [] → ∀ k, v.ownBlock = some k → k < B)
theorem SrcB.fr {w w' : World} {B : Nat} {v : Value} {ns : List Nt} {S : Nat → Prop} (h : SrcB w B v ns) (f : Fr S w w') (hS : ∀ k, k < B → ¬ S k) : SrcB w' B v ns := by
  refine ⟨?_, h.2⟩
  by_cases h0 : ns = []
  · subst h0
    rcases h.1 with (h1 | ⟨b, off, c, rfl, h1, h2, h3, h4⟩) | h1
    · exact .inl (.inl h1)
    · exact .inl (.inr ⟨b, off, c, rfl, h1, h2, fun e => absurd rfl e, fun j u hu => by simp [cellsOf] at hu⟩)
    · exact .inr h1
  · exact h.1.fr f (fun k hk => hS k (h.2 h0 k hk))
theorem SrcB.next {w w' : World} {B : Nat} {v : Value} {ns : List Nt} (h : SrcB w B v ns) (b : Below B w w') : SrcB w' B v ns := by
  refine ⟨?_, h.2⟩
  rcases h.1 with (h1 | ⟨b', off, c, rfl, h1, h2, h3, h4⟩) | h1
  · exact .inl (.inl h1)
  · refine .inl (.inr ⟨b', off, c, rfl, h1, h2, fun e => Nat.lt_of_lt_of_le (h3 e) b.size, fun j u hu => ?_⟩)
    have hn : ns ≠ [] := by rintro rfl; simp [cellsOf] at hu
    exact (b.cell (p := ⟨b', _, none⟩) (h.2 hn b' rfl)).trans (h4 j u hu)
  · exact .inr h1
theorem SrcE.b {w : World} {v : Value} {ns : List Nt} (h : SrcE w v ns) : SrcB w w.heap.size v ns := by
  refine ⟨h, fun h0 k hk => ?_⟩
  rcases h with (⟨rfl, _⟩ | ⟨b, off, c, rfl, h1, h2, h3, h4⟩) | ⟨e, _⟩
  · cases hk
  · injection hk with hk; subst hk; exact h3 h0
  · exact absurd e h0
/-- What the walk of LaneParts holds on to. -/
structure Pt (w0 w : World) (P1 P2 d M N : Nat) (v1 : Value) (n1 : List Nt) (v2 : Value) (n2 : List Nt) (va : Value) (xs : List Nt) (vb : Value) (ys : List Nt) (vc : Value) (cs : List Nt) : Prop where
  x : La w P1 d v1 n1
  y : La w P2 d v2 n2
  a : SrcB w w0.heap.size va xs
  b : SrcB w w0.heap.size vb ys
  c : Src w vc cs
  hc : ∀ k, vc.ownBlock = some k → M ≤ k ∧ k < N
  sx : ∀ k, La.S P1 v1 k → k = P1 ∨ N ≤ k
  sy : ∀ k, La.S P2 v2 k → k = P2 ∨ N ≤ k
  dis : ∀ k, La.S P1 v1 k → ¬ La.S P2 v2 k
  l1 : w0.heap.size ≤ P1
  l2 : w0.heap.size ≤ P2
  m1 : P1 < M
  m2 : P2 < M
  mn : M ≤ N
  hN : N ≤ w.heap.size
  bel : Below w0.heap.size w0 w
section
variable {w0 w w' : World} {P1 P2 d M N : Nat} {v1 v2 va vb vc : Value} {n1 n2 xs ys cs : List Nt}
theorem Pt.next (h : Pt w0 w P1 P2 d M N v1 n1 v2 n2 va xs vb ys vc cs) (b : Below w.heap.size w w') : Pt w0 w' P1 P2 d M N v1 n1 v2 n2 va xs vb ys vc cs :=
  ⟨h.x.next b, h.y.next b, h.a.next (b.mono h.bel.size), h.b.next (b.mono h.bel.size), h.c.fr (Fr.of_below (S := fun _ => False) b) (fun _ _ => id), h.hc, h.sx, h.sy, h.dis, h.l1, h.l2, h.m1, h.m2, h.mn, Nat.le_trans h.hN b.size, below_step h.bel h.bel.size b⟩
theorem Pt.putx {v' : Value} {n' : List Nt} (h : Pt w0 w P1 P2 d M N v1 n1 v2 n2 va xs vb ys vc cs) (hl : La w' P1 d v' n') (f : Fr (La.S P1 v1) w w') (hS : ∀ k, La.S P1 v' k → La.S P1 v1 k ∨ w.heap.size ≤ k) : Pt w0 w' P1 P2 d M N v' n' v2 n2 va xs vb ys vc cs := by
  have l1 := h.l1
  have l2 := h.l2
  have m1 := h.m1
  have m2 := h.m2
  have mn := h.mn
  have hN := h.hN
  have hb := h.bel.size
  refine ⟨hl, h.y.fr f (fun k k2 k1 => h.dis k k1 k2), h.a.fr f (fun k hk e => ?_), h.b.fr f (fun k hk e => ?_), h.c.fr f (fun k hk e => ?_), h.hc, fun k e => ?_, h.sy, fun k e e2 => ?_, l1, l2, m1, m2, mn, Nat.le_trans hN f.size, h.bel.trans (f.below hb (fun i hi e => ?_))⟩
  · rcases h.sx _ e with e | e <;> omega
  · rcases h.sx _ e with e | e <;> omega
  · have := h.hc k hk
    rcases h.sx _ e with e | e <;> omega
  · rcases hS _ e with e | e
    · exact h.sx _ e
    · exact .inr (by omega)
  · rcases hS _ e with e | e
    · exact h.dis k e e2
    · have := h.y.lt k e2; omega
  · rcases h.sx _ e with e | e <;> omega
theorem Pt.puty {v' : Value} {n' : List Nt} (h : Pt w0 w P1 P2 d M N v1 n1 v2 n2 va xs vb ys vc cs) (hl : La w' P2 d v' n') (f : Fr (La.S P2 v2) w w') (hS : ∀ k, La.S P2 v' k → La.S P2 v2 k ∨ w.heap.size ≤ k) : Pt w0 w' P1 P2 d M N v1 n1 v' n' va xs vb ys vc cs := by
  have l1 := h.l1
  have l2 := h.l2
  have m1 := h.m1
  have m2 := h.m2
  have mn := h.mn
  have hN := h.hN
  have hb := h.bel.size
  refine ⟨h.x.fr f (fun k k1 k2 => h.dis k k1 k2), hl, h.a.fr f (fun k hk e => ?_), h.b.fr f (fun k hk e => ?_), h.c.fr f (fun k hk e => ?_), h.hc, h.sx, fun k e => ?_, fun k e e2 => ?_, l1, l2, m1, m2, mn, Nat.le_trans hN f.size, h.bel.trans (f.below hb (fun i hi e => ?_))⟩
  · rcases h.sy _ e with e | e <;> omega
  · rcases h.sy _ e with e | e <;> omega
  · have := h.hc k hk
    rcases h.sy _ e with e | e <;> omega
  · rcases hS _ e with e | e
    · exact h.sy _ e
    · exact .inr (by omega)
  · rcases hS _ e2 with e2 | e2
    · exact h.dis k e e2
    · have := h.x.lt k e; omega
  · rcases h.sy _ e with e | e <;> omega
end
set_option maxHeartbeats 4000000 in
theorem parts_all (d : Nat) (h1 : 1 ≤ d) (h2 : d ≤ 16) (av bv : Option Addr) (ca cb : Nat) (xs ys : List Nt) (ha : xs.length ≤ 20) (hb : ys.length ≤ 20) (hfit : xs.length + ys.length ≤ d) (w : World) (hA : SrcE w (.slice av xs.length ca) xs) (hB : SrcE w (.slice bv ys.length cb) ys) :
    Calls Try.prog 6 #[.int .i64 d, .slice av xs.length ca, .slice bv ys.length cb] w fun r w' => r = .returned (.bool true) ∧ Below w.heap.size w w' := by
  have HA := hide hA.b
  have HB := hide hB.b
  have HF := hide hfit
  clear hA hB hfit
  go_enter Try.func6, Try.ntmps6
  go_wp2_with fail
  refine (new_yes d h1 h2 w).mono ?_
  rintro r w1 ⟨P1, rfl, hl1, hP1, hb1⟩
  go_wp2_with fail
  refine (new_yes d h1 h2 w1).mono ?_
  rintro r w2 ⟨P2, rfl, hl2, hP2, hb2⟩
  have L1 := hide (hl1.next hb2)
  have L2 := hide hl2
  have B2 := hide (below_step hb1 hb1.size hb2)
  have p1 := hl1.hP
  have p2 := hl2.hP
  have A2 := hide (HA.out.next B2.out)
  have C2 := hide (HB.out.next B2.out)
  have B1 := hide hb1
  clear hl1 hl2 hb1 hb2
  have hb0 := B2.out.size
  go_wp2_with (at_builtin; first
    | (refine wpList_app_src rfl _ _ 30 rfl w2.heap.size Try.underlying30 (.slice none 0 0) (.slice av xs.length ca) [] xs rfl (World.ownsRow_nil _ _ _ _) rfl A2.out.1 (by simp; omega) (Nat.le_refl _) ?_; intro vc1 w3 o3 g3 t3)
    | (refine wpList_app_src rfl _ _ 30 rfl w2.heap.size Try.underlying30 vc1 (.slice bv ys.length cb) xs ys rfl o3 rfl (C2.out.next ((below_of_none g3).mono hb0)).1 (by omega) g3.size ?_; intro vc w4 o4 g4 t4))
  have T4 := hide (show Pt w w4 P1 P2 d w2.heap.size w4.heap.size (.slice none 0 0) [] (.slice none 0 0) [] (.slice av xs.length ca) xs (.slice bv ys.length cb) ys vc (xs ++ ys) from by
    have b3 : Below w2.heap.size w2 w3 := below_of_none g3
    have b4 : Below w2.heap.size w2 w4 := b3.trans ((Fr.of_grown' (S := fun i => w2.heap.size ≤ i) g4 (fun E hE _ => (o3.lt E hE).1)).below b3.size (fun i hi e => by omega))
    refine ⟨L1.out.next b4, L2.out.next b4, A2.out.next (b4.mono hb0), C2.out.next (b4.mono hb0), own_src' o4, fun k hk => o4.lt k hk, fun k hk => ?_, fun k hk => ?_, fun k hk e => ?_, hP1, Nat.le_trans B1.out.size hP2, Nat.lt_of_lt_of_le p1 (Nat.le_trans hP2 (Nat.le_of_lt p2)), p2, b4.size, Nat.le_refl _, below_step B2.out hb0 b4⟩
    · rcases hk with hk | hk
      · exact .inl hk
      · cases hk
    · rcases hk with hk | hk
      · exact .inl hk
      · cases hk
    · rcases hk with hk | hk
      · rcases e with e | e
        · omega
        · cases e
      · cases hk)
  clear o3 g3 t3 o4 g4 t4
  refine (put_any (by have := HF.out; simp; omega) _ T4.out.x T4.out.a.1).mono ?_
  rintro r w5 ⟨rfl, v1, k1, k2, k3⟩
  have T5 := hide (T4.out.putx k1 k2 k3)
  clear k1 k2 k3
  go_wp2_with fail
  refine (put_any (by have := HF.out; simp; omega) _ T5.out.x T5.out.b.1).mono ?_
  rintro r w6 ⟨rfl, v1', k1, k2, k3⟩
  rw [List.nil_append] at k1
  have T6 := hide (T5.out.putx k1 k2 k3)
  clear k1 k2 k3
  go_wp2_with fail
  refine (put_any (by have := HF.out; simp; omega) _ T6.out.y (.inl T6.out.c)).mono ?_
  rintro r w7 ⟨rfl, v2, k1, k2, k3⟩
  rw [List.nil_append] at k1
  have T7 := hide (T6.out.puty k1 k2 k3)
  clear k1 k2 k3
  go_wp2_with fail
  refine (all_any _ T7.out.x).mono ?_
  rintro r w8 ⟨va8, rfl, k1, k2, -⟩
  have T8 := hide (T7.out.next k2)
  have K1 := hide k1
  clear k1 k2
  go_wp2_with fail
  refine (notes_yes (by simp; omega) _ K1.out T8.out.c).mono ?_
  rintro r w9 ⟨rfl, k2⟩
  have T9 := hide (T8.out.next k2)
  clear k2 K1
  go_wp2_with fail
  refine (all_any _ T9.out.y).mono ?_
  rintro r w10 ⟨va10, rfl, k1, k2, -⟩
  have T10 := hide (T9.out.next k2)
  have K1 := hide k1
  clear k1 k2
  go_wp2_with fail
  refine (notes_yes (by simp; omega) _ K1.out T10.out.c).mono ?_
  rintro r w11 ⟨rfl, k2⟩
  have T11 := hide (T10.out.next k2)
  clear k2 K1
  go_wp2_with fail
  refine (awake_yes _).mono ?_
  rintro r w12 ⟨rfl, k2⟩
  have T12 := hide (T11.out.next k2)
  clear k2
  go_wp2
  go_ret
  exact ⟨rfl, T12.out.bel⟩
set_option maxHeartbeats 4000000 in
theorem parts_one (d : Nat) (h1 : 1 ≤ d) (h2 : d ≤ 16) (av bv : Option Addr) (ca cb : Nat) (xs ys : List Nt) (ha : xs.length ≤ 20) (hb : ys.length ≤ 20) (hx : xs.length ≤ d) (hxy : ¬ xs.length + ys.length ≤ d) (w : World) (hA : SrcE w (.slice av xs.length ca) xs) (hB : SrcE w (.slice bv ys.length cb) ys) :
    Calls Try.prog 6 #[.int .i64 d, .slice av xs.length ca, .slice bv ys.length cb] w fun r w' => r = .returned (.bool true) ∧ Below w.heap.size w w' := by
  have HA := hide hA.b
  have HB := hide hB.b
  clear hA hB
  go_enter Try.func6, Try.ntmps6
  go_wp2_with fail
  refine (new_yes d h1 h2 w).mono ?_
  rintro r w1 ⟨P1, rfl, hl1, hP1, hb1⟩
  go_wp2_with fail
  refine (new_yes d h1 h2 w1).mono ?_
  rintro r w2 ⟨P2, rfl, hl2, hP2, hb2⟩
  have L1 := hide (hl1.next hb2)
  have L2 := hide hl2
  have B2 := hide (below_step hb1 hb1.size hb2)
  have p1 := hl1.hP
  have p2 := hl2.hP
  have A2 := hide (HA.out.next B2.out)
  have C2 := hide (HB.out.next B2.out)
  have B1 := hide hb1
  clear hl1 hl2 hb1 hb2
  have hb0 := B2.out.size
  go_wp2_with (at_builtin; first
    | (refine wpList_app_src rfl _ _ 30 rfl w2.heap.size Try.underlying30 (.slice none 0 0) (.slice av xs.length ca) [] xs rfl (World.ownsRow_nil _ _ _ _) rfl A2.out.1 (by simp; omega) (Nat.le_refl _) ?_; intro vc1 w3 o3 g3 t3)
    | (refine wpList_app_src rfl _ _ 30 rfl w2.heap.size Try.underlying30 vc1 (.slice bv ys.length cb) xs ys rfl o3 rfl (C2.out.next ((below_of_none g3).mono hb0)).1 (by omega) g3.size ?_; intro vc w4 o4 g4 t4))
  have T4 := hide (show Pt w w4 P1 P2 d w2.heap.size w4.heap.size (.slice none 0 0) [] (.slice none 0 0) [] (.slice av xs.length ca) xs (.slice bv ys.length cb) ys vc (xs ++ ys) from by
    have b3 : Below w2.heap.size w2 w3 := below_of_none g3
    have b4 : Below w2.heap.size w2 w4 := b3.trans ((Fr.of_grown' (S := fun i => w2.heap.size ≤ i) g4 (fun E hE _ => (o3.lt E hE).1)).below b3.size (fun i hi e => by omega))
    refine ⟨L1.out.next b4, L2.out.next b4, A2.out.next (b4.mono hb0), C2.out.next (b4.mono hb0), own_src' o4, fun k hk => o4.lt k hk, fun k hk => ?_, fun k hk => ?_, fun k hk e => ?_, hP1, Nat.le_trans B1.out.size hP2, Nat.lt_of_lt_of_le p1 (Nat.le_trans hP2 (Nat.le_of_lt p2)), p2, b4.size, Nat.le_refl _, below_step B2.out hb0 b4⟩
    · rcases hk with hk | hk
      · exact .inl hk
      · cases hk
    · rcases hk with hk | hk
      · exact .inl hk
      · cases hk
    · rcases hk with hk | hk
      · rcases e with e | e
        · omega
        · cases e
      · cases hk)
  obtain ⟨m, hm⟩ : ∃ m, m = (xs ++ ys).length := ⟨_, rfl⟩
  have hm2 : m = xs.length + ys.length := by rw [hm]; simp
  obtain ⟨g, cp, hvc, -, -⟩ := o4.form (by rw [← hm, hm2]; omega)
  rw [← hm] at hvc
  have hdm : d < m := by omega
  have hdi : (d : Int) < m := by omega
  subst hvc
  replace hm := hide hm
  replace hm2 := hide hm2
  clear o3 g3 t3 o4 g4 t4
  refine (put_any (by simp; omega) _ T4.out.x T4.out.a.1).mono ?_
  rintro r w5 ⟨rfl, v5, k1, k2, k3⟩
  rw [List.nil_append] at k1
  have T5 := hide (T4.out.putx k1 k2 k3)
  clear k1 k2 k3
  go_wp2_with fail
  refine (put_fulle (by simp; omega) (by first | omega | (simp; omega)) _ T5.out.x T5.out.b.1).mono ?_
  rintro r w6 ⟨rfl, k2⟩
  have T6 := hide (T5.out.next k2)
  clear k2
  go_wp2_with fail
  refine (put_fulle (by simp; omega) (by first | omega | (simp; omega)) _ T6.out.y (.inl T6.out.c)).mono ?_
  rintro r w7 ⟨rfl, k2⟩
  have T7 := hide (T6.out.next k2)
  clear k2
  go_wp2_with fail
  refine (len_any _ T7.out.y).mono ?_
  rintro r w8 ⟨hr, k2⟩
  obtain rfl : r = .returned (.int .i64 0) := hr
  have T8 := hide (T7.out.next k2)
  clear k2
  go_wp2_with fail
  refine (len_any _ T8.out.x).mono ?_
  rintro r w9 ⟨hr, k2⟩
  obtain rfl : r = .returned (.int .i64 (xs.length : Int)) := hr
  have T9 := hide (T8.out.next k2)
  clear k2
  go_wp2_with fail
  refine (awake_yes _).mono ?_
  rintro r w10 ⟨rfl, k2⟩
  have T10 := hide (T9.out.next k2)
  clear k2
  go_wp2
  go_ret
  exact ⟨rfl, T10.out.bel⟩
set_option maxHeartbeats 4000000 in
theorem parts_two (d : Nat) (h1 : 1 ≤ d) (h2 : d ≤ 16) (av bv : Option Addr) (ca cb : Nat) (xs ys : List Nt) (ha : xs.length ≤ 20) (hb : ys.length ≤ 20) (hx : ¬ xs.length ≤ d) (hy : ys.length ≤ d) (w : World) (hA : SrcE w (.slice av xs.length ca) xs) (hB : SrcE w (.slice bv ys.length cb) ys) :
    Calls Try.prog 6 #[.int .i64 d, .slice av xs.length ca, .slice bv ys.length cb] w fun r w' => r = .returned (.bool true) ∧ Below w.heap.size w w' := by
  have HA := hide hA.b
  have HB := hide hB.b
  clear hA hB
  go_enter Try.func6, Try.ntmps6
  go_wp2_with fail
  refine (new_yes d h1 h2 w).mono ?_
  rintro r w1 ⟨P1, rfl, hl1, hP1, hb1⟩
  go_wp2_with fail
  refine (new_yes d h1 h2 w1).mono ?_
  rintro r w2 ⟨P2, rfl, hl2, hP2, hb2⟩
  have L1 := hide (hl1.next hb2)
  have L2 := hide hl2
  have B2 := hide (below_step hb1 hb1.size hb2)
  have p1 := hl1.hP
  have p2 := hl2.hP
  have A2 := hide (HA.out.next B2.out)
  have C2 := hide (HB.out.next B2.out)
  have B1 := hide hb1
  clear hl1 hl2 hb1 hb2
  have hb0 := B2.out.size
  go_wp2_with (at_builtin; first
    | (refine wpList_app_src rfl _ _ 30 rfl w2.heap.size Try.underlying30 (.slice none 0 0) (.slice av xs.length ca) [] xs rfl (World.ownsRow_nil _ _ _ _) rfl A2.out.1 (by simp; omega) (Nat.le_refl _) ?_; intro vc1 w3 o3 g3 t3)
    | (refine wpList_app_src rfl _ _ 30 rfl w2.heap.size Try.underlying30 vc1 (.slice bv ys.length cb) xs ys rfl o3 rfl (C2.out.next ((below_of_none g3).mono hb0)).1 (by omega) g3.size ?_; intro vc w4 o4 g4 t4))
  have T4 := hide (show Pt w w4 P1 P2 d w2.heap.size w4.heap.size (.slice none 0 0) [] (.slice none 0 0) [] (.slice av xs.length ca) xs (.slice bv ys.length cb) ys vc (xs ++ ys) from by
    have b3 : Below w2.heap.size w2 w3 := below_of_none g3
    have b4 : Below w2.heap.size w2 w4 := b3.trans ((Fr.of_grown' (S := fun i => w2.heap.size ≤ i) g4 (fun E hE _ => (o3.lt E hE).1)).below b3.size (fun i hi e => by omega))
    refine ⟨L1.out.next b4, L2.out.next b4, A2.out.next (b4.mono hb0), C2.out.next (b4.mono hb0), own_src' o4, fun k hk => o4.lt k hk, fun k hk => ?_, fun k hk => ?_, fun k hk e => ?_, hP1, Nat.le_trans B1.out.size hP2, Nat.lt_of_lt_of_le p1 (Nat.le_trans hP2 (Nat.le_of_lt p2)), p2, b4.size, Nat.le_refl _, below_step B2.out hb0 b4⟩
    · rcases hk with hk | hk
      · exact .inl hk
      · cases hk
    · rcases hk with hk | hk
      · exact .inl hk
      · cases hk
    · rcases hk with hk | hk
      · rcases e with e | e
        · omega
        · cases e
      · cases hk)
  obtain ⟨m, hm⟩ : ∃ m, m = (xs ++ ys).length := ⟨_, rfl⟩
  have hm2 : m = xs.length + ys.length := by rw [hm]; simp
  obtain ⟨g, cp, hvc, -, -⟩ := o4.form (by rw [← hm, hm2]; omega)
  rw [← hm] at hvc
  have hdm : d < m := by omega
  have hdi : (d : Int) < m := by omega
  subst hvc
  replace hm := hide hm
  replace hm2 := hide hm2
  clear o3 g3 t3 o4 g4 t4
  refine (put_fulle (by simp; omega) (by first | omega | (simp; omega)) _ T4.out.x T4.out.a.1).mono ?_
  rintro r w5 ⟨rfl, k2⟩
  have T5 := hide (T4.out.next k2)
  clear k2
  go_wp2_with fail
  refine (put_any (by simp; omega) _ T5.out.x T5.out.b.1).mono ?_
  rintro r w6 ⟨rfl, v6, k1, k2, k3⟩
  rw [List.nil_append] at k1
  have T6 := hide (T5.out.putx k1 k2 k3)
  clear k1 k2 k3
  go_wp2_with fail
  refine (put_fulle (by simp; omega) (by first | omega | (simp; omega)) _ T6.out.y (.inl T6.out.c)).mono ?_
  rintro r w7 ⟨rfl, k2⟩
  have T7 := hide (T6.out.next k2)
  clear k2
  go_wp2_with fail
  refine (len_any _ T7.out.y).mono ?_
  rintro r w8 ⟨hr, k2⟩
  obtain rfl : r = .returned (.int .i64 0) := hr
  have T8 := hide (T7.out.next k2)
  clear k2
  go_wp2_with fail
  refine (len_any _ T8.out.x).mono ?_
  rintro r w9 ⟨hr, k2⟩
  obtain rfl : r = .returned (.int .i64 (ys.length : Int)) := hr
  have T9 := hide (T8.out.next k2)
  clear k2
  go_wp2_with fail
  refine (awake_yes _).mono ?_
  rintro r w10 ⟨rfl, k2⟩
  have T10 := hide (T9.out.next k2)
  clear k2
  go_wp2
  go_ret
  exact ⟨rfl, T10.out.bel⟩
set_option maxHeartbeats 4000000 in
theorem parts_no (d : Nat) (h1 : 1 ≤ d) (h2 : d ≤ 16) (av bv : Option Addr) (ca cb : Nat) (xs ys : List Nt) (ha : xs.length ≤ 20) (hb : ys.length ≤ 20) (hx : ¬ xs.length ≤ d) (hy : ¬ ys.length ≤ d) (w : World) (hA : SrcE w (.slice av xs.length ca) xs) (hB : SrcE w (.slice bv ys.length cb) ys) :
    Calls Try.prog 6 #[.int .i64 d, .slice av xs.length ca, .slice bv ys.length cb] w fun r w' => r = .returned (.bool true) ∧ Below w.heap.size w w' := by
  have HA := hide hA.b
  have HB := hide hB.b
  clear hA hB
  go_enter Try.func6, Try.ntmps6
  go_wp2_with fail
  refine (new_yes d h1 h2 w).mono ?_
  rintro r w1 ⟨P1, rfl, hl1, hP1, hb1⟩
  go_wp2_with fail
  refine (new_yes d h1 h2 w1).mono ?_
  rintro r w2 ⟨P2, rfl, hl2, hP2, hb2⟩
  have L1 := hide (hl1.next hb2)
  have L2 := hide hl2
  have B2 := hide (below_step hb1 hb1.size hb2)
  have p1 := hl1.hP
  have p2 := hl2.hP
  have A2 := hide (HA.out.next B2.out)
  have C2 := hide (HB.out.next B2.out)
  have B1 := hide hb1
  clear hl1 hl2 hb1 hb2
  have hb0 := B2.out.size
  go_wp2_with (at_builtin; first
    | (refine wpList_app_src rfl _ _ 30 rfl w2.heap.size Try.underlying30 (.slice none 0 0) (.slice av xs.length ca) [] xs rfl (World.ownsRow_nil _ _ _ _) rfl A2.out.1 (by simp; omega) (Nat.le_refl _) ?_; intro vc1 w3 o3 g3 t3)
    | (refine wpList_app_src rfl _ _ 30 rfl w2.heap.size Try.underlying30 vc1 (.slice bv ys.length cb) xs ys rfl o3 rfl (C2.out.next ((below_of_none g3).mono hb0)).1 (by omega) g3.size ?_; intro vc w4 o4 g4 t4))
  have T4 := hide (show Pt w w4 P1 P2 d w2.heap.size w4.heap.size (.slice none 0 0) [] (.slice none 0 0) [] (.slice av xs.length ca) xs (.slice bv ys.length cb) ys vc (xs ++ ys) from by
    have b3 : Below w2.heap.size w2 w3 := below_of_none g3
    have b4 : Below w2.heap.size w2 w4 := b3.trans ((Fr.of_grown' (S := fun i => w2.heap.size ≤ i) g4 (fun E hE _ => (o3.lt E hE).1)).below b3.size (fun i hi e => by omega))
    refine ⟨L1.out.next b4, L2.out.next b4, A2.out.next (b4.mono hb0), C2.out.next (b4.mono hb0), own_src' o4, fun k hk => o4.lt k hk, fun k hk => ?_, fun k hk => ?_, fun k hk e => ?_, hP1, Nat.le_trans B1.out.size hP2, Nat.lt_of_lt_of_le p1 (Nat.le_trans hP2 (Nat.le_of_lt p2)), p2, b4.size, Nat.le_refl _, below_step B2.out hb0 b4⟩
    · rcases hk with hk | hk
      · exact .inl hk
      · cases hk
    · rcases hk with hk | hk
      · exact .inl hk
      · cases hk
    · rcases hk with hk | hk
      · rcases e with e | e
        · omega
        · cases e
      · cases hk)
  obtain ⟨m, hm⟩ : ∃ m, m = (xs ++ ys).length := ⟨_, rfl⟩
  have hm2 : m = xs.length + ys.length := by rw [hm]; simp
  obtain ⟨g, cp, hvc, -, -⟩ := o4.form (by rw [← hm, hm2]; omega)
  rw [← hm] at hvc
  have hdm : d < m := by omega
  have hdi : (d : Int) < m := by omega
  subst hvc
  replace hm := hide hm
  replace hm2 := hide hm2
  clear o3 g3 t3 o4 g4 t4
  refine (put_fulle (by simp; omega) (by first | omega | (simp; omega)) _ T4.out.x T4.out.a.1).mono ?_
  rintro r w5 ⟨rfl, k2⟩
  have T5 := hide (T4.out.next k2)
  clear k2
  go_wp2_with fail
  refine (put_fulle (by simp; omega) (by first | omega | (simp; omega)) _ T5.out.x T5.out.b.1).mono ?_
  rintro r w6 ⟨rfl, k2⟩
  have T6 := hide (T5.out.next k2)
  clear k2
  go_wp2_with fail
  refine (put_fulle (by simp; omega) (by first | omega | (simp; omega)) _ T6.out.y (.inl T6.out.c)).mono ?_
  rintro r w7 ⟨rfl, k2⟩
  have T7 := hide (T6.out.next k2)
  clear k2
  go_wp2_with fail
  refine (len_any _ T7.out.y).mono ?_
  rintro r w8 ⟨hr, k2⟩
  obtain rfl : r = .returned (.int .i64 0) := hr
  have T8 := hide (T7.out.next k2)
  clear k2
  go_wp2_with fail
  refine (len_any _ T8.out.x).mono ?_
  rintro r w9 ⟨hr, k2⟩
  obtain rfl : r = .returned (.int .i64 0) := hr
  have T9 := hide (T8.out.next k2)
  clear k2
  go_wp2_with fail
  refine (awake_yes _).mono ?_
  rintro r w10 ⟨rfl, k2⟩
  have T10 := hide (T9.out.next k2)
  clear k2
  go_wp2
  go_ret
  exact ⟨rfl, T10.out.bel⟩
theorem parts_out (z : Int) (av bv : Option Addr) (ca cb L1 L2 : Nat) (h : ¬ (1 ≤ z ∧ z ≤ 16 ∧ L1 ≤ 20 ∧ L2 ≤ 20)) (k1 : L1 ≤ maxLen) (k2 : L2 ≤ maxLen) (w : World) :
    Calls Try.prog 6 #[.int .i64 z, .slice av L1 ca, .slice bv L2 cb] w fun r w' => r = .returned (.bool true) ∧ Below w.heap.size w w' := by
  unfold maxLen at k1 k2
  have hc : z < 1 ∨ (¬ z < 1 ∧ 16 < z) ∨ (¬ z < 1 ∧ ¬ 16 < z ∧ 20 < (L1 : Int)) ∨ (¬ z < 1 ∧ ¬ 16 < z ∧ ¬ 20 < (L1 : Int) ∧ 20 < (L2 : Int)) := by omega
  clear h
  rcases hc with a1 | ⟨a1, a2⟩ | ⟨a1, a2, a3⟩ | ⟨a1, a2, a3, a4⟩
  all_goals
    go_enter Try.func6, Try.ntmps6
    go_wp2_with fail
    refine (awake_yes _).mono ?_
    rintro r w1 ⟨rfl, hb⟩
    go_wp2
    go_ret
    exact ⟨rfl, hb⟩
theorem parts_law (z : Int) (av bv : Option Addr) (ca cb : Nat) (xs ys : List Nt) (k1 : xs.length ≤ maxLen) (k2 : ys.length ≤ maxLen) (w : World) (hA : SrcE w (.slice av xs.length ca) xs) (hB : SrcE w (.slice bv ys.length cb) ys) :
    Calls Try.prog 6 #[.int .i64 z, .slice av xs.length ca, .slice bv ys.length cb] w fun r w' => r = .returned (.bool true) ∧ Below w.heap.size w w' := by
  by_cases h : 1 ≤ z ∧ z ≤ 16 ∧ xs.length ≤ 20 ∧ ys.length ≤ 20
  · obtain ⟨d, rfl⟩ : ∃ d : Nat, z = d := ⟨z.toNat, by omega⟩
    by_cases hxy : xs.length + ys.length ≤ d
    · exact parts_all d (by omega) (by omega) av bv ca cb xs ys h.2.2.1 h.2.2.2 hxy w hA hB
    · by_cases hx : xs.length ≤ d
      · exact parts_one d (by omega) (by omega) av bv ca cb xs ys h.2.2.1 h.2.2.2 hx hxy w hA hB
      · by_cases hy : ys.length ≤ d
        · exact parts_two d (by omega) (by omega) av bv ca cb xs ys h.2.2.1 h.2.2.2 hx hy w hA hB
        · exact parts_no d (by omega) (by omega) av bv ca cb xs ys h.2.2.1 h.2.2.2 hx hy w hA hB
  · exact parts_out z av bv ca cb _ _ h k1 k2 w
end Go.Proofs.Ytopfbmgmpihcnaa
