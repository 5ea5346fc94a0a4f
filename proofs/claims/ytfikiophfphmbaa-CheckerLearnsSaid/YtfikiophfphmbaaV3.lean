/- The reference of layer 9 (checker): Drop. -/
import Derived.Test.YtfikiophfphmbaaV2
import Derived.WalkKit
import Derived.WalkSpells
import Derived.ProofKit
import Derived.Outline
import Derived.Handy
import Derived.RowKit3
import Derived.BigQuiet
import Derived.Deep.QuietTactic
import Derived.Deep.RegionHeld3
import Derived.Deep.Draws
import Derived.Deep.RegionLaw
import Derived.RegionTactic
import Derived.BigRegion
import Derived.IntWalk
import Derived.LoopTactic
import Derived.OwnWalk
import Derived.Laws.AppendOwn
import Derived.Laws.OwnMore
import Derived.Laws.MakeOwn
import Derived.Laws.Pointers
import Derived.Maps.AppendAt
import Derived.Deep.AppendLies
import Derived.Below
namespace Go.Proofs.Ytfikiophfphmbaa
open Go.RowKit
set_option linter.unusedVariables false
set_option maxRecDepth 100000

theorem rdrop_end {w wr : World} {R en gs n m : Nat} {G O A B : Value} {wk at_ : Int} {st : Bool} (h : Rk w R en gs G O n wk at_ st) (hb : Below w.heap.size w wr) (ha : Sl wr A m) (hB : Sl wr B m) (hm : m ≤ n) (la : ∀ k, A.ownBlock = some k → w.heap.size ≤ k) (lb : ∀ k, B.ownBlock = some k → w.heap.size ≤ k) (dis : ∀ k, A.ownBlock = some k → B.ownBlock ≠ some k) :
    Rent R en gs G O w ((wr.setCell ⟨R, 2, none⟩ A).setCell ⟨R, 3, none⟩ B) ∧ ∀ x, Rent R en gs G O w (((wr.setCell ⟨R, 2, none⟩ A).setCell ⟨R, 3, none⟩ B).setCell ⟨R, 6, none⟩ (.bool x)) := by
  have hR := h.hR
  have hle := h.le
  have k := (h.next hb).setGO ha hB (fun e => by have := la _ e; omega) (fun e => by have := lb _ e; omega) dis (by omega)
  have f : Fr (fun k => k = R) w ((wr.setCell ⟨R, 2, none⟩ A).setCell ⟨R, 3, none⟩ B) := ((Fr.of_below hb).trans (rk_fr wr R 2 A) (fun _ _ e => e)).trans (rk_fr _ R 3 B) (fun _ _ e => e)
  have s : ∀ k, Rk.S R A B k → Rk.S R G O k ∨ w.heap.size ≤ k := by
    rintro k (e | e | e)
    · exact .inl (.inl e)
    · exact .inr (la k e)
    · exact .inr (lb k e)
  exact ⟨⟨_, _, _, _, _, _, k, f.mono (fun _ _ e => .inl e), s⟩, fun x => ⟨_, _, _, _, _, _, k.setSt x, (f.trans (rk_fr _ R 6 _) (fun _ _ e => e)).mono (fun _ _ e => .inl e), s⟩⟩
def DropRel (n : Nat) (w : World) (v6 v7 v8 : Value) (wr : World) : Prop := ∃ k m : Nat, k ≤ n ∧ m ≤ k ∧ v8 = .int .i64 k ∧ Sl wr v6 m ∧ Sl wr v7 m ∧ (∀ j, v6.ownBlock = some j → w.heap.size ≤ j) ∧ (∀ j, v7.ownBlock = some j → w.heap.size ≤ j) ∧ (∀ j, v6.ownBlock = some j → v7.ownBlock ≠ some j) ∧ Below w.heap.size w wr
theorem drop_rel {n k m : Nat} {w wr w1 w2 : World} {v6 v7 : Value} {x y : Int} {g1 o1 p1 g2 o2 p2 : Nat} {a1 a2 : Obj} (hk : k < n) (hm : m ≤ k) (s6 : Sl wr v6 m) (s7 : Sl wr v7 m) (l6 : ∀ j, v6.ownBlock = some j → w.heap.size ≤ j) (l7 : ∀ j, v7.ownBlock = some j → w.heap.size ≤ j) (d : ∀ j, v6.ownBlock = some j → v7.ownBlock ≠ some j) (hB : Below w.heap.size w wr)
    (q1 : Sl w1 (.slice (some ⟨g1, o1, none⟩) (m + 1) p1) (m + 1)) (f1 : Fr (fun k => v6.ownBlock = some k) (wr.alloc a1) w1) (t1 : v6.ownBlock = some g1 ∨ (wr.alloc a1).heap.size ≤ g1)
    (q2 : Sl w2 (.slice (some ⟨g2, o2, none⟩) (m + 1) p2) (m + 1)) (f2 : Fr (fun k => v7.ownBlock = some k) (w1.alloc a2) w2) (t2 : v7.ownBlock = some g2 ∨ (w1.alloc a2).heap.size ≤ g2) :
    ∃ k' m' : Nat, k' ≤ n ∧ m' ≤ k' ∧ Value.int .i64 ((k : Int) + 1) = .int .i64 k' ∧ Sl w2 (.slice (some ⟨g1, o1, none⟩) (m + 1) p1) m' ∧ Sl w2 (.slice (some ⟨g2, o2, none⟩) (m + 1) p2) m' ∧ (∀ j, (Value.slice (some ⟨g1, o1, none⟩) (m + 1) p1).ownBlock = some j → w.heap.size ≤ j) ∧ (∀ j, (Value.slice (some ⟨g2, o2, none⟩) (m + 1) p2).ownBlock = some j → w.heap.size ≤ j) ∧ (∀ j, (Value.slice (some ⟨g1, o1, none⟩) (m + 1) p1).ownBlock = some j → (Value.slice (some ⟨g2, o2, none⟩) (m + 1) p2).ownBlock ≠ some j) ∧ Below w.heap.size w w2 := by
  have hs := hB.size
  have z1 := f1.size
  have z2 := f2.size
  simp at z1 z2 t1 t2
  have hg1 : g1 < w1.heap.size := q1.lt g1 rfl
  have b7 : ∀ j, v7.ownBlock = some j → j < wr.heap.size := s7.lt
  have b6 : ∀ j, v6.ownBlock = some j → j < wr.heap.size := s6.lt
  have hne : g1 ≠ g2 := by
    rintro rfl
    rcases t2 with t2 | t2
    · rcases t1 with t1 | t1
      · exact d _ t1 t2
      · have := b7 _ t2; omega
    · omega
  have hl1 : w.heap.size ≤ g1 := by
    rcases t1 with t1 | t1
    · exact l6 _ t1
    · omega
  have hl2 : w.heap.size ≤ g2 := by
    rcases t2 with t2 | t2
    · exact l7 _ t2
    · omega
  refine ⟨k + 1, m + 1, by omega, by omega, int_eq (by omega), ?_, q2, ?_, ?_, ?_, ?_⟩
  · refine (q1.next ((Below.refl _ _).alloc (Nat.le_refl _) a2)).fr f2 (fun j hj e => ?_)
    have hj' : g1 = j := by injection hj
    subst hj'
    rcases t1 with t1 | t1
    · exact d _ t1 e
    · have := b7 _ e; omega
  · intro j hj; have hj' : g1 = j := by injection hj
    omega
  · intro j hj; have hj' : g2 = j := by injection hj
    omega
  · intro j hj e; have hj' : g1 = j := by injection hj
    have he' : g2 = j := by injection e
    omega
  · have a := (((Fr.of_below (S := fun k => w.heap.size ≤ k) hB).alloc a1).trans f1 (fun i _ e => l6 i e)).alloc a2
    exact (a.trans f2 (fun i _ e => l7 i e)).below (Nat.le_refl _) (fun i hi e => by omega)
section
variable {R en gs n : Nat} {G O : Value} {wk at_ : Int} {st : Bool}
set_option maxHeartbeats 8000000 in
theorem rdrop_any (g : Int) (w : World) (h : Rk w R en gs G O n wk at_ st) : Calls Try.prog 41 #[.pointer (some ⟨R, 0, none⟩), .int .i64 g] w (BegR R en gs G O w) := by
  have c1 := h.c1
  have hR := h.hR
  have hle := h.le
  have he8 := h.e8
  have H := hide h
  clear h
  by_cases hg : -1 ≤ g ∧ g < gs
  · obtain ⟨hgl, hgu⟩ := hg
    have c2 := H.out.c2
    obtain ⟨ga, gc, rfl⟩ : ∃ a c, G = .slice a n c := by
      rcases H.out.g with ⟨e, e2⟩ | ⟨b, off, cap, e, -⟩
      · exact ⟨none, 0, by rw [e, e2]⟩
      · exact ⟨_, _, e⟩
    go_enter Try.func41, Try.ntmps41
    go_wp2
    go_loopw [6, 7, 8] (fun v6 v7 v8 wr => DropRel n w v6 v7 v8 wr) (fun _ _ v8 _ => n - (intOf v8).toNat)
    case atStart => exact ⟨0, 0, Nat.zero_le _, Nat.le_refl _, rfl, .inl ⟨rfl, rfl⟩, .inl ⟨rfl, rfl⟩, (fun j hj => by cases hj), (fun j hj => by cases hj), (fun j hj => by cases hj), Below.refl _ _⟩
    case round =>
      obtain ⟨k, m, hk, hm, rfl, s6, s7, l6, l7, d, hB⟩ := hrel
      have hs := hB.size
      have hRr : R < wr.heap.size := by omega
      have c2' := cell_next hB hR c2
      have c3' := cell_next hB hR H.out.c3
      have f2 := (H.out.next hB).f 2 (by omega)
      have f3 := (H.out.next hB).f 3 (by omega)
      have f6 := (H.out.next hB).f 6 (by omega)
      have c4' := (H.out.next hB).c4
      have c6' := (H.out.next hB).c6
      by_cases hlt : k < n
      · obtain ⟨b, off, rfl, hbl, x, hx⟩ : ∃ b off, ga = some ⟨b, off, none⟩ ∧ b < w.heap.size ∧ ∃ x : Int, w.cell? ⟨b, off + k, none⟩ = some (.int .i64 x) := by
          rcases H.out.g with ⟨e, e2⟩ | ⟨b, off, cap, e, h1, h2, h3, h4, -⟩
          · omega
          · simp at e; obtain ⟨rfl, rfl⟩ := e; exact ⟨b, off, rfl, h3, h4 k hlt⟩
        obtain ⟨ob, oo, oc, rfl, hol, y, hy⟩ : ∃ b off c, O = .slice (some ⟨b, off, none⟩) n c ∧ b < w.heap.size ∧ ∃ x : Int, w.cell? ⟨b, off + k, none⟩ = some (.int .i64 x) := by
          rcases H.out.o with ⟨e, e2⟩ | ⟨b, off, cap, e, h1, h2, h3, h4, -⟩
          · omega
          · exact ⟨b, off, cap, e, h3, h4 k hlt⟩
        have x' := cell_next hB hbl hx
        have y' := cell_next hB hol hy
        have hol' : ob < wr.heap.size := by omega
        by_cases hg0 : 0 ≤ g
        · by_cases hxg : x = g
          · subst hxg
            have S := hide (show DropRel n w u6 u7 (.int .i64 ((k : Int) + 1)) wr from ⟨k + 1, m, by omega, by omega, int_eq (by omega), s6, s7, l6, l7, d, hB⟩)
            clear s6 s7 l6 l7 d hB
            go_wp2
            go_roundw
            case rel => exact S.out
            case measure => simp [intOf]; omega
          · have e : (x != g) = true := by simpa using hxg
            have e' : (x == g) = false := beq_eq_false_iff_ne.2 hxg
            clear hxg
            have l6' := hide l6
            have l7' := hide l7
            have d' := hide d
            have B' := hide hB
            have Q6 := hide s6
            have Q7 := hide s7
            have L6 := hide s6.lt
            have L7 := hide s7.lt
            clear l6 l7 d hB s6 s7
            go_wp2_with (first
              | (at_builtin; refine wpList_sl_app rfl _ _ 79 rfl Try.underlying79 u6 m ⟨wr.heap.size, 0, none⟩ 1 x rfl (Q6.out.next ((Below.refl _ _).alloc (Nat.le_refl _) _)) (by omega) rfl (by simp [go_sem]) ?_; intro g1 o1 p1 w1 q1 f1 t1; have F1 := hide f1; have Q1 := hide q1; have T1 := hide t1; have z1' : wr.heap.size < w1.heap.size := Nat.lt_of_lt_of_le (by simp) f1.size; have c3w : w1.cell? ⟨R, 3, none⟩ = some (.slice (some ⟨ob, oo, none⟩) n oc) := (f1.cell (Nat.lt_of_lt_of_le hRr (by simp)) (fun e => by have := l6'.out _ e; omega)).trans ((World.cell?_alloc_lt wr _ ⟨R, 3, none⟩ hRr).trans c3'); have yw : w1.cell? ⟨ob, oo + k, none⟩ = some (.int .i64 y) := (f1.cell (Nat.lt_of_lt_of_le hol' (by simp)) (fun e => by have := l6'.out _ e; omega)).trans ((World.cell?_alloc_lt wr _ ⟨ob, oo + k, none⟩ hol').trans y'); have Q7w := hide ((Q7.out.next ((Below.refl _ _).alloc (Nat.le_refl _) (.cells #[.int .i64 x] 3))).fr f1 (fun j hj e => d'.out j e hj)); clear f1 q1 t1)
              | (at_builtin; refine wpList_sl_app rfl _ _ 79 rfl Try.underlying79 u7 m ⟨w1.heap.size, 0, none⟩ 1 y rfl (Q7w.out.next ((Below.refl _ _).alloc (Nat.le_refl _) _)) (by omega) rfl (by simp [go_sem]) ?_; intro g2 o2 p2 w2 q2 f2' t2; have E := hide (drop_rel (x := x) (y := y) hlt hm Q6.out Q7.out l6'.out l7'.out d'.out B'.out Q1.out F1.out T1.out q2 f2' t2); clear q2 f2' t2))
            go_roundw
            case rel => exact E.out
            case measure => simp [intOf]; omega
        · have S := hide (show DropRel n w u6 u7 (.int .i64 ((k : Int) + 1)) wr from ⟨k + 1, m, by omega, by omega, int_eq (by omega), s6, s7, l6, l7, d, hB⟩)
          clear s6 s7 l6 l7 d hB
          go_wp2
          go_roundw
          case rel => exact S.out
          case measure => simp [intOf]; omega
      · have hmn : m ≤ n := by omega
        have hrk := rdrop_end H.out hB s6 s7 hmn l6 l7 d
        rcases s6 with ⟨rfl, rfl⟩ | ⟨b6, of6, cp6, rfl, -⟩ <;> rcases s7 with ⟨rfl, e7⟩ | ⟨b7, of7, cp7, rfl, -⟩
        all_goals (try subst e7)
        all_goals
          have X := hide (hrk)
          clear hrk
          by_cases hw : 0 ≤ wk
          · by_cases hg0 : g < 0
            · go_wp2
              go_ret2
              exact ⟨⟨_, _, rfl⟩, X.out.2 true⟩
            · by_cases hwg : wk = g
              · subst hwg
                go_wp2
                go_ret2
                exact ⟨⟨_, _, rfl⟩, X.out.2 true⟩
              · have e : (wk == g) = false := beq_eq_false_iff_ne.2 hwg
                clear hwg
                go_wp2
                go_ret2
                exact ⟨⟨_, _, rfl⟩, X.out.1⟩
          · go_wp2
            go_ret2
            exact ⟨⟨_, _, rfl⟩, X.out.1⟩
  · by_cases h1 : g < -1
    · go_enter Try.func41, Try.ntmps41
      go_wp2
      go_ret2
      exact ⟨⟨_, _, rfl⟩, rent_same H.out (Below.refl _ _)⟩
    · have h2 : ¬ g < gs := by omega
      have h0 : -1 ≤ g := by omega
      clear hg
      go_enter Try.func41, Try.ntmps41
      go_wp2
      go_ret2
      exact ⟨⟨_, _, rfl⟩, rent_same H.out (Below.refl _ _)⟩
end
end Go.Proofs.Ytfikiophfphmbaa
