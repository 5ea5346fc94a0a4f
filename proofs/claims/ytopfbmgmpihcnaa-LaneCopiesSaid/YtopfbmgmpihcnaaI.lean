/- Notes, walked. -/
import Derived.Test.YtopfbmgmpihcnaaH
import Derived.WalkKit
import Derived.WalkSpells
import Derived.ProofKit
import Derived.Outline
import Derived.Handy
import Derived.RowKit3
import Derived.BigQuiet
import Derived.Deep.QuietTactic
import Derived.Deep.RegionHeld3
import Derived.Deep.Draws
import Derived.Deep.RegionLaw
import Derived.RegionTactic
import Derived.BigRegion
import Derived.IntWalk
import Derived.LoopTactic
import Derived.OwnWalk
import Derived.Laws.AppendOwn
import Derived.Laws.OwnMore
import Derived.Laws.MakeOwn
import Derived.Laws.Pointers
import Derived.Maps.AppendAt
import Derived.Deep.AppendLies
import Derived.Below
import Derived.RangeFuncNested
import Derived.RangeFuncBound
import Derived.RangeFuncCalls
import Derived.RangeFuncLeaves
import Derived.Shelf.Abstract
import Derived.Shelf.RegionOpen
import Derived.OwnWalkIn
import Derived.TacticsInMore
import Derived.LoopNIn
import Derived.LoopIn
namespace Go.Proofs.Ytopfbmgmpihcnaa
open Go.RowKit Go.Shelf
attribute [local go_sem] Oper.semAt_some
set_option linter.unusedVariables false
set_option maxRecDepth 100000


/-- What the walk of Notes holds on to. -/
structure Nc (w : World) (n : Int) (sl : Value) (W : World) : Prop where
  c0 : W.cell? ⟨w.heap.size, 0, none⟩ = some sl
  c1 : W.cell? ⟨w.heap.size + 1, 0, none⟩ = some (.bool false)
  f1 : W.frozen? ⟨w.heap.size + 1, 0, none⟩ = false
  c2 : W.cell? ⟨w.heap.size + 1 + 1, 0, none⟩ = some (.int .i64 n)
  f2 : W.frozen? ⟨w.heap.size + 1 + 1, 0, none⟩ = false
  lt : w.heap.size + 1 + 1 < W.heap.size
  b : Below w.heap.size w W
theorem Nc.fr {w W W1 : World} {n : Int} {sl : Value} {S : Nat → Prop} (h : Nc w n sl W) (f : Fr S W W1) (hS : ∀ k, S k → w.heap.size + 1 + 1 < k) : Nc w n sl W1 :=
  have n0 : ∀ k, k ≤ w.heap.size + 1 + 1 → ¬ S k := fun k hk hs => by have := hS k hs; omega
  have hl := h.lt
  ⟨(f.cell (by omega) (n0 _ (by omega))).trans h.c0, (f.cell (by omega) (n0 _ (by omega))).trans h.c1, (f.frozen (by omega) (n0 _ (by omega))).trans h.f1, (f.cell (by omega) (n0 _ (by omega))).trans h.c2, (f.frozen (by omega) (n0 _ (by omega))).trans h.f2, Nat.lt_of_lt_of_le h.lt f.size, h.b.trans (f.below h.b.size (fun i hi => n0 i (by omega)))⟩
theorem Nc.set {w W : World} {n : Int} {sl : Value} (h : Nc w n sl W) (m : Int) : Nc w m sl (W.setCell ⟨w.heap.size + 1 + 1, 0, none⟩ (.int .i64 m)) :=
  ⟨(setCell_cell_other (by simp)).trans h.c0, (setCell_cell_other (by simp)).trans h.c1, by simpa [World.frozen?_setCell] using h.f1, World.cell?_setCell_same' _ _ _ (by rw [h.c2]; rfl), by simpa [World.frozen?_setCell] using h.f2, by simpa [World.setCell] using h.lt, h.b.setCell (by show w.heap.size ≤ w.heap.size + 1 + 1; omega) _⟩
theorem Nc.own {β : Type} {w : World} {sl : Value} (B : Nat) (hB : w.heap.size + 1 + 1 < B) (R : β → Int → Prop) : OwnFrom B (fun s W => ∃ n, R s n ∧ Nc w n sl W) := by
  rintro s A B' row ⟨n, hr0, hs⟩ hg hr
  exact ⟨n, hr0, hs.fr (Fr.of_grown' (S := fun k => row = some k) hg (fun E hE _ => hE)) (fun k e => Nat.lt_of_lt_of_le hB (hr k e).1)⟩
theorem ntat_own {A A' : World} {row : Option Nat} {T : Nat} {x : Nt} (h : NtAt A T 0 x) (hg : A.grownBy A' row) (hr : ∀ r, row = some r → ∃ o : Obj, A.heap[r]? = some o ∧ o.isCells = false) : NtAt A' T 0 x := by
  obtain ⟨a0, a1, a2, a3, a4, a5, a6, a7, a8⟩ := h
  exact ⟨cell_kept a0 hg hr, cell_kept a1 hg hr, cell_kept a2 hg hr, cell_kept a3 hg hr, cell_kept a4 hg hr, cell_kept a5 hg hr, cell_kept a6 hg hr, cell_kept a7 hg hr, cell_kept a8 hg hr⟩
theorem take_next {α : Type} {ns pre : List α} {q : α} (h : pre = ns.take pre.length) (hq : ns[pre.length]? = some q) : pre ++ [q] = ns.take (pre ++ [q]).length := by
  rw [List.length_append, List.length_singleton, take_snoc ns _ q hq, ← h]
theorem take_not {α : Type} {ns pre : List α} {x q : α} (hq : ns[pre.length]? = some q) (hx : q ≠ x) (k : Nat) : pre ++ [x] ≠ ns.take k := by
  intro e
  have h1 : (pre ++ [x])[pre.length]? = some x := by simp
  rw [e] at h1
  have hk : pre.length < k := by
    have : (pre ++ [x]).length ≤ k := by rw [e]; exact List.length_take_le _ _
    simp at this; omega
  rw [List.getElem?_take, if_pos hk, hq] at h1
  injection h1 with h1
  exact hx h1
theorem below_putObj {B : Nat} (W : World) (l : Nat) (o : Obj) (h : B ≤ l) : Below B W (W.putObj l o) := ⟨rfl, rfl, rfl, by simp, fun i hi => World.putObj_heap_other (by omega)⟩
theorem kf_set (B : Nat) (W W1 : World) (h : W1.heap = W.heap) (a : Addr) (u : Value) : KeepsFrom B W (W1.setCell a u) := by
  have := (KeepsOthers.setCell W1 a u).from B
  exact ⟨by rw [← h]; exact this.size, fun k o hB hk ho => this.same k o hB (by rw [h]; exact hk) ho⟩
theorem kf_to {B : Nat} {W X Y : World} (h : KeepsFrom B W X) (e : Y.heap = X.heap) : KeepsFrom B W Y := ⟨by rw [e]; exact h.size, fun k o hB hk ho => by rw [e]; exact h.same k o hB hk ho⟩
theorem below_same {B : Nat} {a b : World} (h1 : b.os = a.os) (h2 : b.tape = a.tape) (h3 : b.output = a.output) (h4 : b.heap = a.heap) : Below B a b := ⟨h1, h2, h3, by rw [h4]; exact Nat.le_refl _, fun i _ => by rw [h4]⟩
theorem fr_same (S : Nat → Prop) {a b : World} (h1 : b.os = a.os) (h2 : b.tape = a.tape) (h3 : b.output = a.output) (h4 : b.heap = a.heap) : Fr S a b := ⟨h1, h2, h3, by rw [h4]; exact Nat.le_refl _, fun i _ _ => by rw [h4]⟩
set_option maxHeartbeats 8000000 in
theorem notes_yes {B : Nat} {v sl : Value} {ns : List Nt} (hlen : ns.length ≤ 100) (w : World) (hA : AllAt w B v ns) (hs : Src w sl ns) :
    Calls Try.prog 15 #[.func (.func 22) #[] #[.pointer (some ⟨B, 0, none⟩)], sl] w fun r w' => r = .returned (.bool true) ∧ Below w.heap.size w w' := by
  have E1 : ∀ W, (binOp BinOp.eql 39 (.func (.func 22) #[] #[.pointer (some ⟨B, 0, none⟩)]) .nilFunc).run Try.prog W = .ok (.bool false) W := fun W => by kernel_rfl
  have E2 := hide note_neq
  obtain ⟨W3, hW3⟩ : ∃ W3, ((w.alloc (.cells #[sl] 30)).alloc (.cells #[.bool false] 4)).alloc (.cells #[.int .i64 0] 3) = W3 := ⟨_, rfl⟩
  have B3 : Below w.heap.size w W3 := by
    rw [← hW3]
    exact (((Below.refl _ _).alloc (Nat.le_refl _) _).alloc (by simp) _).alloc (by simp; omega) _
  have N3 : Nc w 0 sl W3 := by
    refine ⟨?_, ?_, ?_, ?_, ?_, ?_, B3⟩ <;> (rw [← hW3]; simp [go_sem])
  have S3 : W3.heap.size = w.heap.size + 1 + 1 + 1 := by rw [← hW3]; simp
  have HB3 := hide B3
  have HN3 := hide N3
  have HA := hide hA
  have HS := hide hs
  have hBl := hA.hB
  have HAll := hide (all_stops ns hlen (3 - 1) (by omega) B w.heap.size v W3 (by omega) (hA.fr (Fr.of_below (S := fun _ => False) B3) id (fun _ _ => id)) hA.hB hA.lt)
  replace hW3 := hide hW3
  have HW3 := hW3
  clear B3 N3 hA hW3
  rcases hs with ⟨rfl, hns⟩ | ⟨b, off, cp, rfl, s1, s2, s3, s4⟩
  · replace hns := hide hns
    refine (callsIn_wide (n := 3)).1 ?_
    refine callsIn_of_wp_marks Try.func15 rfl trivial ?_ rfl
    simp only [Try.ntmps15, List.size_toArray, List.length_cons, List.length_nil, Nat.reduceAdd, Nat.reduceSub, Array.replicate_succ, Array.replicate_zero, List.push_toArray, List.append_toArray, List.nil_append, List.cons_append]
    gi_wp2_with fail
    rw [HW3.out]
    refine wpIn_rangeFunc_ownH rfl (by omega) (gf := 22) (lb := #[.pointer (some ⟨B, 0, none⟩)]) rfl trivial (enters_of Try.func22 (by kernel_rfl) rfl) HAll.out (fun h k => h.trans k) (fun W l o o' hl _ _ _ => (below_putObj W l o' (Nat.le_trans HN3.out.b.size hl))) (Below.refl _ _) (fun _ => rfl)
      (fun pre W => ∃ n, (pre = ns.take pre.length ∧ n = (pre.length : Int)) ∧ Nc w n (.slice none 0 0) W)
      (fun c pre W => ∀ k, pre ≠ ns.take k)
      (Nc.own _ (by omega) fun pre n => pre = ns.take pre.length ∧ n = (pre.length : Int))
      (fun c s A B row hs hg hr => hs)
      ⟨0, ⟨rfl, rfl⟩, HN3.out⟩
      (fun x a' W => ∃ T, a' = ({ tmps := #[.func (.func 22) #[] #[.pointer (some ⟨B, 0, none⟩)], (.slice none 0 0), undef, .pointer (some ⟨w.heap.size, 0, none⟩), .pointer (some ⟨w.heap.size + 1, 0, none⟩), .pointer (some ⟨w.heap.size + 1 + 1, 0, none⟩), .pointer (some ⟨T, 0, none⟩), .func (.func 22) #[] #[.pointer (some ⟨B, 0, none⟩)], .bool false, .func (.func 22) #[] #[.pointer (some ⟨B, 0, none⟩)], x.v, undef, undef, undef, undef, undef, undef, undef, undef, undef, undef, undef, undef, undef, undef, undef, undef, undef, undef], defers := [] } : Act) ∧ w.heap.size + 1 + 1 < T ∧ T < W.heap.size ∧ NtAt W T 0 x) ?hAx ?assign ?body ?done ?stop
    case hAx =>
      rintro x a' _ A A' row ⟨T, h1, h2, h3, h4⟩ hg hr
      exact ⟨T, h1, h2, Nat.lt_of_lt_of_le h3 hg.size, ntat_own h4 hg (fun r e => (hr r e).2)⟩
    case assign =>
      rintro l pre x W K ⟨n, hr, hN⟩ hK
      have HN := hide hN
      have hl := hN.lt
      clear hN
      gi_wp2
      refine hK _ _ (KeepsFrom.of_grownBy (World.grownBy_alloc _ _ none) (fun _ e => by cases e)) ((Below.refl _ _).alloc (by omega) _) ⟨n, hr, HN.out.fr ((Fr.refl (fun _ => False) W).alloc _) (fun _ h => h.elim)⟩ ⟨W.heap.size, rfl, by omega, by simp, (ntw_new W x 51).c⟩
    case body =>
      rintro l pre x a' W _ _ _ _ hlt
      rw [hns.out] at hlt
      simp at hlt

    case done =>
      rintro D ys W hD rfl ⟨n, ⟨-, rfl⟩, hN⟩ hK
      obtain rfl : ys = [] := hns.out
      have HN := hide hN
      obtain ⟨c0, c1, f1, c2, f2, lt, hb⟩ := hN
      gi_wp2
      have hK2 : (W.setCell ⟨w.heap.size + 1, 0, none⟩ (.bool true)).heap[D]? = some (.deferred (some [])) := (Below.heap_setCell W ⟨w.heap.size + 1, 0, none⟩ _ D (by show ¬ _ = _; simp; omega)).trans hK
      refine ⟨by simp, .inl ⟨_, _, rfl, run_takeDeferred hK2, ?_⟩⟩
      have hD3 : w.heap.size + 1 ≠ D := by omega
      have hb2 : Below w.heap.size w ((W.setCell ⟨w.heap.size + 1, 0, none⟩ (.bool true)).putObj D (.deferred none)) := (hb.setCell (by show w.heap.size ≤ w.heap.size + 1; omega) _).trans (below_putObj _ D _ (by omega))
      have hc : ((W.setCell ⟨w.heap.size + 1, 0, none⟩ (.bool true)).putObj D (.deferred none)).cell? ⟨w.heap.size + 1, 0, none⟩ = some (.bool true) := (World.cell?_of_block (a := ⟨w.heap.size + 1, 0, none⟩) (World.putObj_heap_other (show w.heap.size + 1 ≠ D from hD3))).trans (World.cell?_setCell_same' _ _ _ (by rw [c1]; rfl))
      exact ⟨.bool true, by simp [results, Try.results15, go_sem, hc], rfl, hb2⟩
    case stop =>
      rintro D c pre W _ ⟨k, h1, h2, h3⟩ hs _
      exact absurd h3 (hs k)
  · have S4 := hide s4
    clear s4
    refine (callsIn_wide (n := 3)).1 ?_
    refine callsIn_of_wp_marks Try.func15 rfl trivial ?_ rfl
    simp only [Try.ntmps15, List.size_toArray, List.length_cons, List.length_nil, Nat.reduceAdd, Nat.reduceSub, Array.replicate_succ, Array.replicate_zero, List.push_toArray, List.append_toArray, List.nil_append, List.cons_append]
    gi_wp2_with fail
    rw [HW3.out]
    refine wpIn_rangeFunc_ownH rfl (by omega) (gf := 22) (lb := #[.pointer (some ⟨B, 0, none⟩)]) rfl trivial (enters_of Try.func22 (by kernel_rfl) rfl) HAll.out (fun h k => h.trans k) (fun W l o o' hl _ _ _ => (below_putObj W l o' (Nat.le_trans HN3.out.b.size hl))) (Below.refl _ _) (fun _ => rfl)
      (fun pre W => ∃ n, (pre = ns.take pre.length ∧ n = (pre.length : Int)) ∧ Nc w n (.slice (some ⟨b, off, none⟩) ns.length cp) W)
      (fun c pre W => ∀ k, pre ≠ ns.take k)
      (Nc.own _ (by omega) fun pre n => pre = ns.take pre.length ∧ n = (pre.length : Int))
      (fun c s A B row hs hg hr => hs)
      ⟨0, ⟨rfl, rfl⟩, HN3.out⟩
      (fun x a' W => ∃ T, a' = ({ tmps := #[.func (.func 22) #[] #[.pointer (some ⟨B, 0, none⟩)], (.slice (some ⟨b, off, none⟩) ns.length cp), undef, .pointer (some ⟨w.heap.size, 0, none⟩), .pointer (some ⟨w.heap.size + 1, 0, none⟩), .pointer (some ⟨w.heap.size + 1 + 1, 0, none⟩), .pointer (some ⟨T, 0, none⟩), .func (.func 22) #[] #[.pointer (some ⟨B, 0, none⟩)], .bool false, .func (.func 22) #[] #[.pointer (some ⟨B, 0, none⟩)], x.v, undef, undef, undef, undef, undef, undef, undef, undef, undef, undef, undef, undef, undef, undef, undef, undef, undef, undef], defers := [] } : Act) ∧ w.heap.size + 1 + 1 < T ∧ T < W.heap.size ∧ NtAt W T 0 x) ?hAx ?assign ?body ?done ?stop
    case hAx =>
      rintro x a' _ A A' row ⟨T, h1, h2, h3, h4⟩ hg hr
      exact ⟨T, h1, h2, Nat.lt_of_lt_of_le h3 hg.size, ntat_own h4 hg (fun r e => (hr r e).2)⟩
    case assign =>
      rintro l pre x W K ⟨n, hr, hN⟩ hK
      have HN := hide hN
      have hl := hN.lt
      clear hN
      gi_wp2
      refine hK _ _ (KeepsFrom.of_grownBy (World.grownBy_alloc _ _ none) (fun _ e => by cases e)) ((Below.refl _ _).alloc (by omega) _) ⟨n, hr, HN.out.fr ((Fr.refl (fun _ => False) W).alloc _) (fun _ h => h.elim)⟩ ⟨W.heap.size, rfl, by omega, by simp, (ntw_new W x 51).c⟩
    case body =>
      rintro l pre x a' W hl ⟨rr, hrr⟩ ⟨n, ⟨hp, rfl⟩, hN⟩ ⟨T, rfl, hT1, hT2, hTn⟩ hlt
      have HN := hide hN
      have HP := hide hp
      obtain ⟨q, hq⟩ : ∃ q, ns[pre.length]? = some q := ⟨ns[pre.length], List.getElem?_eq_getElem hlt⟩
      have HQ := hide hq
      have hne : ns ≠ [] := by rintro rfl; simp at hlt
      have hbw : b < w.heap.size := s3 hne
      have hbW : b < W.heap.size := Nat.lt_of_lt_of_le hbw hN.b.size
      obtain ⟨z0, z1, z2, z3, z4, z5, z6, z7, z8⟩ := (src_at S4.out pre.length q hq).fr (Fr.of_below (S := fun _ => False) hN.b) hbw id
      obtain ⟨t0, t1, t2, t3, t4, t5, t6, t7, t8⟩ := hTn
      obtain ⟨c0, c1, f1, c2, f2, lt, _⟩ := hN
      have n1 : ¬ ns.length ≤ pre.length := by omega
      have n2 : decide (ns.length ≤ pre.length) = false := by simp; omega
      cases hsame : q.same x with
      | false =>
        have e3 : ∀ W, (binOp BinOp.neq 51 q.v x.v).run Try.prog W = .ok (.bool true) W := fun W => by rw [note_neq, hsame]; rfl
        have HX := hide (show q ≠ x by rintro rfl; rw [Nt.same_refl] at hsame; cases hsame)
        clear hp hq hrr hsame
        gi_wp2
        gi_region
        all_goals
          gi_wp2
          exact ⟨kf_to (kf_set W3.heap.size W W rfl ⟨w.heap.size + 1, 0, none⟩ (.bool false)) (by rfl), take_not HQ.out HX.out⟩
      | true =>
        have e3 : ∀ W, (binOp BinOp.neq 51 q.v x.v).run Try.prog W = .ok (.bool false) W := fun W => by rw [note_neq, hsame]; rfl
        have HX := hide (Nt.same_eq hsame)
        clear hp hq hrr hsame
        gi_wp2
        gi_region
        all_goals
          gi_wp2
          rw [HX.out] at HQ
          exact ⟨kf_to (kf_set W3.heap.size W W rfl ⟨w.heap.size + 1 + 1, 0, none⟩ (.int .i64 ((pre.length : Int) + 1))) (by rfl), ((Below.refl w.heap.size W).setCell (p := ⟨w.heap.size + 1 + 1, 0, none⟩) (show w.heap.size ≤ w.heap.size + 1 + 1 by omega) (.int .i64 ((pre.length : Int) + 1))).trans (below_same (by rfl) (by rfl) (by rfl) (by rfl)), (pre.length : Int) + 1, ⟨take_next HP.out HQ.out, by simp⟩, (HN.out.set ((pre.length : Int) + 1)).fr (fr_same (fun _ => False) (by rfl) (by rfl) (by rfl) (by rfl)) (fun _ h => h.elim)⟩

    case done =>
      rintro D ys W hD rfl ⟨n, ⟨-, rfl⟩, hN⟩ hK
      have HN := hide hN
      obtain ⟨c0, c1, f1, c2, f2, lt, hb⟩ := hN
      gi_wp2
      have hK2 : (W.setCell ⟨w.heap.size + 1, 0, none⟩ (.bool true)).heap[D]? = some (.deferred (some [])) := (Below.heap_setCell W ⟨w.heap.size + 1, 0, none⟩ _ D (by show ¬ _ = _; simp; omega)).trans hK
      refine ⟨by simp, .inl ⟨_, _, rfl, run_takeDeferred hK2, ?_⟩⟩
      have hD3 : w.heap.size + 1 ≠ D := by omega
      have hb2 : Below w.heap.size w ((W.setCell ⟨w.heap.size + 1, 0, none⟩ (.bool true)).putObj D (.deferred none)) := (hb.setCell (by show w.heap.size ≤ w.heap.size + 1; omega) _).trans (below_putObj _ D _ (by omega))
      have hc : ((W.setCell ⟨w.heap.size + 1, 0, none⟩ (.bool true)).putObj D (.deferred none)).cell? ⟨w.heap.size + 1, 0, none⟩ = some (.bool true) := (World.cell?_of_block (a := ⟨w.heap.size + 1, 0, none⟩) (World.putObj_heap_other (show w.heap.size + 1 ≠ D from hD3))).trans (World.cell?_setCell_same' _ _ _ (by rw [c1]; rfl))
      exact ⟨.bool true, by simp [results, Try.results15, go_sem, hc], rfl, hb2⟩
    case stop =>
      rintro D c pre W _ ⟨k, h1, h2, h3⟩ hs _
      exact absurd h3 (hs k)
end Go.Proofs.Ytopfbmgmpihcnaa
