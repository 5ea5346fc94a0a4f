/- The iterator of All, and its contract, where other blocks may turn. -/
import Derived.Test.YtopfbmgmpihcnaaI
import Derived.WalkKit
import Derived.WalkSpells
import Derived.ProofKit
import Derived.Outline
import Derived.Handy
import Derived.RowKit3
import Derived.BigQuiet
import Derived.Deep.QuietTactic
import Derived.Deep.RegionHeld3
import Derived.Deep.Draws
import Derived.Deep.RegionLaw
import Derived.RegionTactic
import Derived.BigRegion
import Derived.IntWalk
import Derived.LoopTactic
import Derived.OwnWalk
import Derived.Laws.AppendOwn
import Derived.Laws.OwnMore
import Derived.Laws.MakeOwn
import Derived.Laws.Pointers
import Derived.Maps.AppendAt
import Derived.Deep.AppendLies
import Derived.Below
import Derived.RangeFuncNested
import Derived.RangeFuncBound
import Derived.RangeFuncCalls
import Derived.RangeFuncLeaves
import Derived.Shelf.Abstract
import Derived.Shelf.RegionOpen
import Derived.OwnWalkIn
import Derived.TacticsInMore
import Derived.LoopNIn
import Derived.LoopIn
namespace Go.Proofs.Ytopfbmgmpihcnaa
open Go.RowKit Go.Shelf
attribute [local go_sem] Oper.semAt_some
set_option linter.unusedVariables false
set_option maxRecDepth 100000


def ERelF (ns : List Nt) (S : Nat → Prop) (J : List Nt → World → Prop) (W : World) (i : Value) (wr : World) : Prop :=
  ∃ k : Nat, k ≤ ns.length ∧ i = .int .i64 k ∧ J (ns.take k) wr ∧ Fr S W wr
set_option maxHeartbeats 4000000 in
theorem all_stopsF (S : Nat → Prop) (ns : List Nt) (hlen : ns.length ≤ 100) (n : Nat) (hn : 1 ≤ n) (B : Nat) (v : Value) (w : World) (hA : AllAt w B v ns) (hv : ∀ k, v.ownBlock = some k → ¬ S k) :
    SeqStopsK Fence.wide n Try.prog 22 #[.pointer (some ⟨B, 0, none⟩)] (fun x : Nt => #[x.v]) (Fr S) (fun xs => xs = ns) (fun pre => ∃ k, 0 < k ∧ k ≤ ns.length ∧ pre = ns.take k) ns.length w := fun l J Jx W hW hJ hJx hY h0 => by
  have hA1 := hA.next hW
  have c := hA1.c
  rcases hA1.src with ⟨rfl, rfl⟩ | ⟨b, off, cp, rfl, s1, s2, s3, s4⟩
  · refine callsIn_of_wp Try.func22 rfl trivial ?_ rfl
    simp only [Try.ntmps22, List.size_toArray, List.length_cons, List.length_nil, Nat.reduceAdd, Nat.reduceSub, Array.replicate_succ, Array.replicate_zero, List.push_toArray, List.append_toArray, List.nil_append, List.cons_append]
    gi_wp2
    gi_loopw [7] (fun i wr => i = .int .i64 0 ∧ J [] wr) (fun _ _ => 0)
    case atStart => exact ⟨rfl, h0⟩
    case round =>
      obtain ⟨rfl, hJ0⟩ := hrel
      gi_wp2
      go_end0
      exact ⟨⟨_, rfl⟩, .inl ⟨_, rfl, hJ0⟩⟩
  · have hb : ¬ S b := hv b rfl
    refine callsIn_of_wp Try.func22 rfl trivial ?_ rfl
    simp only [Try.ntmps22, List.size_toArray, List.length_cons, List.length_nil, Nat.reduceAdd, Nat.reduceSub, Array.replicate_succ, Array.replicate_zero, List.push_toArray, List.append_toArray, List.nil_append, List.cons_append]
    have HS4 := hide s4
    clear s4
    gi_wp2
    gi_loopw [7] (fun i wr => ERelF ns S J W i wr) (fun i _ => ns.length - (intOf i).toNat)
    case atStart => exact ⟨0, Nat.zero_le _, rfl, h0, Fr.refl _ _⟩
    case round =>
      obtain ⟨k, hk, rfl, hJk, hBl⟩ := hrel
      by_cases hlt : k < ns.length
      · obtain ⟨x, hx⟩ : ∃ x, ns[k]? = some x := ⟨ns[k], List.getElem?_eq_getElem hlt⟩
        have hne : ns ≠ [] := by rintro rfl; simp at hlt
        have hbW : b < W.heap.size := s3 hne
        obtain ⟨y0, y1, y2, y3, y4, y5, y6, y7, y8⟩ := src_at HS4.out k x hx
        have low : ∀ (o : Nat) (u : Value), W.cell? ⟨b, o, none⟩ = some u → wr.cell? ⟨b, o, none⟩ = some u := fun o u h => (hBl.cell hbW hb).trans h
        have z0 := low _ _ y0
        have z1 := low _ _ y1
        have z2 := low _ _ y2
        have z3 := low _ _ y3
        have z4 := low _ _ y4
        have z5 := low _ _ y5
        have z6 := low _ _ y6
        have z7 := low _ _ y7
        have z8 := low _ _ y8
        have hJ2 := hide (hJ _ wr (wr.alloc (.cells x.arr 51)) none hJk (World.grownBy_alloc _ _ _) (fun r e => by cases e))
        have hbr : b < wr.heap.size := Nat.lt_of_lt_of_le hbW hBl.size
        have hts := hide (take_snoc ns k x hx)
        have hlk := hide (show (ns.take k).length < ns.length by rw [List.length_take]; omega)
        clear y0 y1 y2 y3 y4 y5 y6 y7 y8 hJk low
        obtain ⟨fn, tmps, assign, body, hy, hR⟩ := hY _ x (wr.alloc (.cells x.arr 51)) hJ2.out hlk.out
        gi_wp2
        refine hR.mono ?_
        rintro e W3 (⟨rfl, hJ3, hk3⟩ | ⟨rfl, hJx3⟩)
        · rw [← hts.out] at hJ3
          gi_wp2
          go_roundw
          case rel => exact ⟨k + 1, by omega, int_eq (by omega), hJ3, (hBl.alloc _).trans hk3 (fun _ _ h => h)⟩
          case measure => simp [intOf]; omega
        · rw [← hts.out] at hJx3
          gi_wp2
          refine bodyPost_ret (results_none rfl _ _ _) rfl ?_
          exact ⟨⟨_, rfl⟩, .inr ⟨_, ⟨k + 1, by omega, by omega, rfl⟩, hJx3⟩⟩
      · obtain rfl : k = ns.length := by omega
        rw [List.take_length] at hJk
        gi_wp2
        go_end0
        exact ⟨⟨_, rfl⟩, .inl ⟨_, rfl, hJk⟩⟩

/-- A range over the notes of an iterator, the loop's variable in a box. -/
theorem rf_note {Q : Exit → Act → World → Prop} {g : Operand} {assign body : Code} {a : Act} {w w0 : World} {Bx pq : Nat} (pb : Nat) {S : Nat → Prop} {Sp : List Nt → Prop} {ns : List Nt}
    (hg : a.eval g = .func (.func 22) #[] #[.pointer (some ⟨Bx, 0, none⟩)]) (hseq : SeqStopsK Fence.wide (3 - 1) Try.prog 22 #[.pointer (some ⟨Bx, 0, none⟩)] (fun x : Nt => #[x.v]) (Fr S) (fun xs => xs = ns) Sp ns.length w0)
    (hS : ∀ k, w.heap.size ≤ k → S k) (hb0 : Below w0.heap.size w0 w) (I : List Nt → World → Prop) (Ix : List Nt → World → Prop) (hI : OwnFrom w.heap.size I) (hIx : OwnFrom w.heap.size Ix) (h0 : I [] w)
    (hassign : ∀ (l : Nat) (pre : List Nt) (x : Nt) (W : World) (K : Act → World → Prop), I pre W → (∀ (T : Nat) (W' : World), KeepsFrom w.heap.size W W' → Fr S W W' → I pre W' → w.heap.size ≤ T → T < W'.heap.size → NtAt W' T 0 x → K { tmps := (a.tmps.setIfInBounds pq x.v).setIfInBounds pb (.pointer (some ⟨T, 0, none⟩)), defers := [] } W') →
      assign.wpIn (Fence.wide.inRound l) (3 - 1 - 1) Try.prog (Exit.then K (fun _ _ _ => False)) { tmps := a.tmps.setIfInBounds pq x.v, defers := [] } W)
    (hbody : ∀ (l : Nat) (pre : List Nt) (x : Nt) (T : Nat) (W : World), w.heap.size ≤ l → (∃ r, W.heap[l]? = some (.loop r)) → I pre W → w.heap.size ≤ T → T < W.heap.size → NtAt W T 0 x → pre.length < ns.length →
      body.wpIn (Fence.wide.inRound l) (3 - 1 - 1) Try.prog (ownPostG w.heap.size (Fr S) I (fun _ => Ix) (pre ++ [x]) W) { tmps := (a.tmps.setIfInBounds pq x.v).setIfInBounds pb (.pointer (some ⟨T, 0, none⟩)), defers := [] } W)
    (hdone : ∀ (D : Nat) (W : World), w.heap.size ≤ D → I ns W → W.heap[D]? = some (.deferred (some [])) → Q .normal { a with defers := { target := .collected D, args := #[] } :: a.defers } W)
    (hstop : ∀ (D : Nat) (c : Code) (pre : List Nt) (W : World), w.heap.size ≤ D → Sp pre → Ix pre W → W.heap[D]? = some (.deferred (some [])) → c.wpIn Fence.wide 3 Try.prog Q { a with defers := { target := .collected D, args := #[] } :: a.defers } W) :
    (Code.rangeFunc g #[pq] assign body).wpIn Fence.wide 3 Try.prog Q a w := by
  refine wpIn_rangeFunc_ownH rfl (by omega) hg trivial (enters_of Try.func22 (by kernel_rfl) rfl) hseq (fun h k => h.trans k (fun _ _ h => h)) (fun W l o o' hl _ _ _ => ⟨rfl, rfl, rfl, by simp, fun i hi hn => World.putObj_heap_other (by rintro rfl; exact hn (hS _ hl))⟩) hb0 (fun _ => rfl)
    I (fun _ => Ix) hI (fun _ => hIx) h0
    (fun x a' W => ∃ T, a' = ({ tmps := (a.tmps.setIfInBounds pq x.v).setIfInBounds pb (.pointer (some ⟨T, 0, none⟩)), defers := [] } : Act) ∧ w.heap.size ≤ T ∧ T < W.heap.size ∧ NtAt W T 0 x) ?_ ?_ ?_ ?_ ?_
  · rintro x a' _ A A' row ⟨T, h1, h2, h3, h4⟩ hg hr
    exact ⟨T, h1, h2, Nat.lt_of_lt_of_le h3 hg.size, ntat_own h4 hg (fun r e => (hr r e).2)⟩
  · intro l pre x W K hi hK
    have e : (#[pq].zip #[x.v]).foldl (fun t (p, v) => t.setIfInBounds p v) a.tmps = a.tmps.setIfInBounds pq x.v := by
      simp [← Array.foldl_toList]
    rw [e]
    exact hassign l pre x W K hi (fun T W' k1 k2 k3 k4 k5 k6 => hK _ _ k1 k2 k3 ⟨T, rfl, k4, k5, k6⟩)
  · rintro l pre x a' W hl hr hi ⟨T, rfl, k1, k2, k3⟩ hlt
    exact hbody l pre x T W hl hr hi k1 k2 k3 hlt
  · rintro D xs W hD rfl hi hK
    exact hdone D W hD hi hK
  · intro D c pre W hD hp hi hK
    exact hstop D c pre W hD hp hi hK
end Go.Proofs.Ytopfbmgmpihcnaa
