/- does, walked, where more may have turned. -/
import Derived.Test.YtopfbmgmpihcnaaS1
import Derived.Test.YtopfbmgmpihcnaaN
import Derived.WalkKit
import Derived.WalkSpells
import Derived.ProofKit
import Derived.Outline
import Derived.Handy
import Derived.RowKit3
import Derived.BigQuiet
import Derived.Deep.QuietTactic
import Derived.Deep.RegionHeld3
import Derived.Deep.Draws
import Derived.Deep.RegionLaw
import Derived.RegionTactic
import Derived.BigRegion
import Derived.IntWalk
import Derived.LoopTactic
import Derived.OwnWalk
import Derived.Laws.AppendOwn
import Derived.Laws.OwnMore
import Derived.Laws.MakeOwn
import Derived.Laws.Pointers
import Derived.Maps.AppendAt
import Derived.Deep.AppendLies
import Derived.Below
namespace Go.Proofs.Ytopfbmgmpihcnaa
open Go.RowKit
set_option linter.unusedVariables false
set_option maxRecDepth 100000

/-- A lane and the reference's, that do not share, and what may have turned since w0. -/
structure Twg (G : Nat → Prop) (B0 : Nat) (w0 w : World) (P R d : Nat) (v : Value) (nx : List Nt) (rv : Value) (ny : List Nt) : Prop where
  x : La w P d v nx
  y : La w R d rv ny
  dis : ∀ k, La.S P v k → ¬ La.S R rv k
  lx : ∀ k, La.S P v k → G k ∨ w0.heap.size ≤ k
  ly : ∀ k, La.S R rv k → G k ∨ w0.heap.size ≤ k
  fr : Fr G w0 w
  hG : ∀ k, G k → B0 ≤ k
  hB : B0 ≤ w0.heap.size
section
variable {G : Nat → Prop} {B0 : Nat} {w0 w w' : World} {P R d : Nat} {v rv : Value} {nx ny : List Nt}
theorem Twg.sz (h : Twg G B0 w0 w P R d v nx rv ny) : B0 ≤ w.heap.size := Nat.le_trans h.hB h.fr.size
theorem Twg.lowx (h : Twg G B0 w0 w P R d v nx rv ny) : ∀ k, La.S P v k → B0 ≤ k := fun k e => (h.lx k e).elim (h.hG k) (fun e => Nat.le_trans h.hB e)
theorem Twg.lowy (h : Twg G B0 w0 w P R d v nx rv ny) : ∀ k, La.S R rv k → B0 ≤ k := fun k e => (h.ly k e).elim (h.hG k) (fun e => Nat.le_trans h.hB e)
theorem Twg.bel (h : Twg G B0 w0 w P R d v nx rv ny) : Below B0 w0 w := h.fr.below h.hB (fun i hi e => by have := h.hG i e; omega)
theorem Twg.next (h : Twg G B0 w0 w P R d v nx rv ny) (b : Below w.heap.size w w') : Twg G B0 w0 w' P R d v nx rv ny :=
  ⟨h.x.next b, h.y.next b, h.dis, h.lx, h.ly, h.fr.trans (Fr.of_below (S := fun _ => False) b) (fun _ _ e => e.elim), h.hG, h.hB⟩
theorem Twg.sx {v' : Value} {n' : List Nt} (h : Twg G B0 w0 w P R d v nx rv ny) (hl : La w' P d v' n') (f : Fr (La.S P v) w w') (hS : ∀ k, La.S P v' k → k = P ∨ La.S P v k ∨ w.heap.size ≤ k) : Twg G B0 w0 w' P R d v' n' rv ny := by
  refine ⟨hl, h.y.fr f (fun k k2 k1 => h.dis k k1 k2), fun k e e2 => ?_, fun k e => ?_, h.ly, h.fr.trans f (fun i hi e => (h.lx i e).resolve_right (by omega)), h.hG, h.hB⟩
  · rcases hS k e with e | e | e
    · exact h.dis k (.inl e) e2
    · exact h.dis k e e2
    · have := h.y.lt k e2; omega
  · rcases hS k e with e | e | e
    · exact h.lx k (.inl e)
    · exact h.lx k e
    · exact .inr (Nat.le_trans h.fr.size e)
theorem Twg.sy {v' : Value} {n' : List Nt} (h : Twg G B0 w0 w P R d v nx rv ny) (hl : La w' R d v' n') (f : Fr (La.S R rv) w w') (hS : ∀ k, La.S R v' k → k = R ∨ La.S R rv k ∨ w.heap.size ≤ k) : Twg G B0 w0 w' P R d v nx v' n' := by
  refine ⟨h.x.fr f (fun k k1 k2 => h.dis k k1 k2), hl, fun k e e2 => ?_, h.lx, fun k e => ?_, h.fr.trans f (fun i hi e => (h.ly i e).resolve_right (by omega)), h.hG, h.hB⟩
  · rcases hS k e2 with e2 | e2 | e2
    · exact h.dis k e (.inl e2)
    · exact h.dis k e e2
    · have := h.x.lt k e; omega
  · rcases hS k e with e | e | e
    · exact h.ly k (.inl e)
    · exact h.ly k e
    · exact .inr (Nat.le_trans h.fr.size e)
end
/-- What does leaves. -/
def Dotg (G : Nat → Prop) (B0 : Nat) (w0 : World) (P R d : Nat) (r : Ending) (w' : World) : Prop := r = .returned (.bool true) ∧ ∃ v rv ns, Twg G B0 w0 w' P R d v ns rv ns
set_option maxHeartbeats 4000000 in
theorem dg_put {G : Nat → Prop} {B0 : Nat} {w0 w : World} {P R d : Nat} {v rv : Value} {ns ms : List Nt} (h : Twg G B0 w0 w P R d v ns rv ns) (z : Int) (av : Option Addr) (c : Nat) (hms : ms.length ≤ 20) (hs : SrcB w B0 (.slice av ms.length c) ms) :
    Calls Try.prog 10 #[.pointer (some ⟨P, 0, none⟩), .pointer (some ⟨R, 0, none⟩), .agg #[.int .i64 0, .int .i64 z, .slice av ms.length c]] w (Dotg G B0 w0 P R d) := by
  have b1 := (Below.refl w.heap.size w).alloc (Nat.le_refl _) (.cells #[.int .i64 0, .int .i64 z, .slice av ms.length c] 35)
  have H1 := hide (h.next b1)
  have S1 := hide (hs.next (b1.mono h.sz))
  have hw := h.sz
  have hx := h.x.lt
  have hy := h.y.lt
  have X := hide hx
  have Y := hide hy
  clear h hs b1 hx hy
  by_cases hfit : ns.length + ms.length ≤ d
  · have HF := hide hfit
    clear hfit
    go_enter Try.func10, Try.ntmps10
    go_wp2_with fail
    refine (rput_ok HF.out _ H1.out.y S1.out.1).mono ?_
    rintro r w2 ⟨rfl, rv2, k1, k2, k3⟩
    have H2 := hide (H1.out.sy k1 k2 (fun k e => .inr (k3 k e)))
    have S2 := hide (S1.out.fr k2 (fun k hk e => by have := H1.out.lowy k e; omega))
    have q0 := (k2.cell (p := w.heap.size) (o := 2) (by simp) (fun e => by have := Y.out _ e; omega)).trans (by simp [go_sem] : _ = some (.slice av ms.length c))
    clear k1 k2 k3
    go_wp2_with fail
    refine (put_any HF.out _ H2.out.x S2.out.1).mono ?_
    rintro r w3 ⟨rfl, v2, k1, k2, k3⟩
    have H3 := hide (H2.out.sx k1 k2 (fun k e => .inr (k3 k e)))
    clear k1 k2 k3
    go_wp2
    go_ret
    exact ⟨rfl, _, _, _, H3.out⟩
  · have HF := hide hfit
    clear hfit
    go_enter Try.func10, Try.ntmps10
    go_wp2_with fail
    refine (rput_full HF.out (by omega) _ H1.out.y).mono ?_
    rintro r w2 ⟨rfl, k2⟩
    have H2 := hide (H1.out.next k2)
    have S2 := hide (S1.out.next (k2.mono H1.out.sz))
    have q0 := (cell_next k2 (p := w.heap.size) (o := 2) (by simp) (by simp [go_sem] : _ = some (.slice av ms.length c)))
    clear k2
    go_wp2_with fail
    refine (put_fulle HF.out (by omega) _ H2.out.x S2.out.1).mono ?_
    rintro r w3 ⟨rfl, k2⟩
    have H3 := hide (H2.out.next k2)
    clear k2
    go_wp2
    go_ret
    exact ⟨rfl, _, _, _, H3.out⟩
set_option maxHeartbeats 4000000 in
theorem dg_none {G : Nat → Prop} {B0 : Nat} {w0 w : World} {P R d : Nat} {v rv : Value} (h : Twg G B0 w0 w P R d v [] rv []) (a z : Int) (ha : (a == 0) = false) (sl : Value) (av : Option Addr) (L c : Nat) (hsl : sl = .slice av L c) :
    Calls Try.prog 10 #[.pointer (some ⟨P, 0, none⟩), .pointer (some ⟨R, 0, none⟩), .agg #[.int .i64 a, .int .i64 z, .slice av L c]] w (Dotg G B0 w0 P R d) := by
  have H1 := hide (h.next ((Below.refl w.heap.size w).alloc (Nat.le_refl _) (.cells #[.int .i64 a, .int .i64 z, .slice av L c] 35)))
  have ez : ∀ W, (binOp BinOp.eql 51 (.agg #[.int .i64 0, .int .i64 0, .int .i64 0, .int .i64 0, .int .i64 0, .int .i64 0, .int .i64 0, .bool false, .int .i64 0]) (.agg #[.int .i64 0, .int .i64 0, .int .i64 0, .int .i64 0, .int .i64 0, .int .i64 0, .int .i64 0, .bool false, .int .i64 0])).run Try.prog W = .ok (.bool true) W := fun W => (note_eql nt0 nt0 W).trans (by rw [Nt.same_refl])
  clear h hsl
  go_enter Try.func10, Try.ntmps10
  go_wp2_with fail
  refine (take_none z _ H1.out.x).mono ?_
  rintro r w2 ⟨hr, k2⟩
  obtain rfl : r = .returned (.tuple #[.agg #[.int .i64 0, .int .i64 0, .int .i64 0, .int .i64 0, .int .i64 0, .int .i64 0, .int .i64 0, .bool false, .int .i64 0], .int .i64 12]) := hr
  have H2 := hide ((H1.out.next k2).next ((Below.refl _ _).alloc (Nat.le_refl _) (.cells nt0.arr 51)))
  have q0 := (cell_next k2 (p := w.heap.size) (o := 1) (by simp) (by simp [go_sem] : _ = some (.int .i64 z)))
  have hl2 : w.heap.size < w2.heap.size := by have := k2.size; simp at this; omega
  clear k2
  go_wp2_with fail
  refine (rtake_none z _ H2.out.y).mono ?_
  rintro r w3 ⟨hr, k2⟩
  obtain rfl : r = .returned (.tuple #[.agg #[.int .i64 0, .int .i64 0, .int .i64 0, .int .i64 0, .int .i64 0, .int .i64 0, .int .i64 0, .bool false, .int .i64 0], .bool false]) := hr
  have H3 := hide ((H2.out.next k2).next ((Below.refl _ _).alloc (Nat.le_refl _) (.cells nt0.arr 51)))
  obtain ⟨t0, t1, t2, t3, t4, t5, t6, t7, t8⟩ := ((ntw_new w2 nt0 51).next k2).c
  have hl3 : w2.heap.size < w3.heap.size := by have := k2.size; simp at this; omega
  simp only [nt0] at t0 t1 t2 t3 t4 t5 t6 t7 t8
  clear k2
  go_wp2
  go_ret
  exact ⟨rfl, _, _, _, H3.out⟩
set_option maxHeartbeats 4000000 in
theorem dg_some {G : Nat → Prop} {B0 : Nat} {w0 w : World} {P R d : Nat} {v rv : Value} {ns : List Nt} (h : Twg G B0 w0 w P R d v ns rv ns) (a z : Int) (ha : (a == 0) = false) (i : Nat) (x : Nt) (hi : z % (ns.length : Int) = (i : Int)) (hx : ns[i]? = some x) (av : Option Addr) (L c : Nat) :
    Calls Try.prog 10 #[.pointer (some ⟨P, 0, none⟩), .pointer (some ⟨R, 0, none⟩), .agg #[.int .i64 a, .int .i64 z, .slice av L c]] w (Dotg G B0 w0 P R d) := by
  have H1 := hide (h.next ((Below.refl w.heap.size w).alloc (Nat.le_refl _) (.cells #[.int .i64 a, .int .i64 z, .slice av L c] 35)))
  have ez : ∀ W, (binOp BinOp.eql 51 (.agg #[.int .i64 x.k, .int .i64 x.c, .int .i64 x.l, .int .i64 x.w, .int .i64 x.s, .int .i64 x.d, .int .i64 x.e, .bool x.b, .int .i64 x.n]) (.agg #[.int .i64 x.k, .int .i64 x.c, .int .i64 x.l, .int .i64 x.w, .int .i64 x.s, .int .i64 x.d, .int .i64 x.e, .bool x.b, .int .i64 x.n])).run Try.prog W = .ok (.bool true) W := fun W => (note_eql x x W).trans (by rw [Nt.same_refl])
  have X := hide h.x.lt
  have HI := hide hi
  have HX := hide hx
  clear h hi hx
  go_enter Try.func10, Try.ntmps10
  go_wp2_with fail
  refine (take_some z i x HI.out HX.out _ H1.out.x).mono ?_
  rintro r w2 ⟨rfl, v2, k1, k2, k3⟩
  have h2 := H1.out.sx k1 k2 (fun k e => (k3 k e).elim .inl (fun e => .inr (.inr e)))
  have H2 := hide (h2.next ((Below.refl _ _).alloc (Nat.le_refl _) (.cells x.arr 51)))
  have q0 := (k2.cell (p := w.heap.size) (o := 1) (by simp) (fun e => by have := X.out _ e; omega)).trans (by simp [go_sem] : _ = some (.int .i64 z))
  have hl2 : w.heap.size < w2.heap.size := by have := k2.size; simp at this; omega
  have Y2 := hide h2.y.lt
  clear h2 k1 k2 k3
  go_wp2_with fail
  refine (rtake_some z i x HI.out HX.out _ H2.out.y).mono ?_
  rintro r w3 ⟨rfl, v3, k1, k2, k3⟩
  have h3 := H2.out.sy k1 k2 (fun k e => (k3 k e).elim .inl (fun e => .inr (.inr e)))
  have H3 := hide (h3.next ((Below.refl _ _).alloc (Nat.le_refl _) (.cells x.arr 51)))
  obtain ⟨t0, t1, t2, t3, t4, t5, t6, t7, t8⟩ := ((ntw_new w2 x 51).fr k2 (fun e => by have := Y2.out _ e; omega)).c
  have hl3 : w2.heap.size < w3.heap.size := by have := k2.size; simp at this; omega
  clear h3 k1 k2 k3
  go_wp2
  go_ret
  exact ⟨rfl, _, _, _, H3.out⟩
theorem dg_any {G : Nat → Prop} {B0 : Nat} {w0 w : World} {P R d : Nat} {v rv : Value} {ns ms : List Nt} (h : Twg G B0 w0 w P R d v ns rv ns) (a z : Int) (av : Option Addr) (c : Nat) (hms : ms.length ≤ 20) (hs : SrcB w B0 (.slice av ms.length c) ms) :
    Calls Try.prog 10 #[.pointer (some ⟨P, 0, none⟩), .pointer (some ⟨R, 0, none⟩), .agg #[.int .i64 a, .int .i64 z, .slice av ms.length c]] w (Dotg G B0 w0 P R d) := by
  by_cases ha : a = 0
  · subst ha; exact dg_put h z av c hms hs
  · have hab : (a == 0) = false := beq_eq_false_iff_ne.2 ha
    by_cases hn : ns = []
    · subst hn; exact dg_none h a z hab _ av _ c rfl
    · have hpos : (0 : Int) < ns.length := by
        cases ns
        · exact absurd rfl hn
        · simp
      obtain ⟨i, hi⟩ : ∃ i : Nat, z % (ns.length : Int) = i := ⟨(z % (ns.length : Int)).toNat, by have := Int.emod_nonneg z (show (ns.length : Int) ≠ 0 by omega); omega⟩
      have hil : i < ns.length := by have := Int.emod_lt_of_pos z hpos; omega
      exact dg_some h a z hab i ns[i] hi (List.getElem?_eq_getElem hil) av _ c
end Go.Proofs.Ytopfbmgmpihcnaa
