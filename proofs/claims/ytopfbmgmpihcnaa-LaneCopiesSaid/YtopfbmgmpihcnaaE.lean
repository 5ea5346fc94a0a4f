/- The iterator of All, and its contract. -/
import Derived.Test.YtopfbmgmpihcnaaD
import Derived.WalkKit
import Derived.WalkSpells
import Derived.ProofKit
import Derived.Outline
import Derived.Handy
import Derived.RowKit3
import Derived.BigQuiet
import Derived.Deep.QuietTactic
import Derived.Deep.RegionHeld3
import Derived.Deep.Draws
import Derived.Deep.RegionLaw
import Derived.RegionTactic
import Derived.BigRegion
import Derived.IntWalk
import Derived.LoopTactic
import Derived.OwnWalk
import Derived.Laws.AppendOwn
import Derived.Laws.OwnMore
import Derived.Laws.MakeOwn
import Derived.Laws.Pointers
import Derived.Maps.AppendAt
import Derived.Deep.AppendLies
import Derived.Below
import Derived.RangeFuncNested
import Derived.RangeFuncBound
import Derived.RangeFuncCalls
import Derived.RangeFuncLeaves
import Derived.Shelf.Abstract
import Derived.Shelf.RegionOpen
import Derived.OwnWalkIn
import Derived.TacticsInMore
import Derived.LoopNIn
import Derived.LoopIn
namespace Go.Proofs.Ytopfbmgmpihcnaa
open Go.RowKit Go.Shelf
attribute [local go_sem] Oper.semAt_some
set_option linter.unusedVariables false
set_option maxRecDepth 100000


theorem grown_of_below {a w : World} (h : Below a.heap.size a w) (row : Option Nat) : a.grownBy w row := ⟨h.os, h.tape, h.output, h.size, fun i hi _ => h.block i hi⟩
theorem setCell_new (w : World) (o : Nat) (v : Value) (cs : Array Value) (t : TypeId) : True := trivial
def ERel (ns : List Nt) (n₀ : Nat) (J : List Nt → World → Prop) (W : World) (i : Value) (wr : World) : Prop :=
  ∃ k : Nat, k ≤ ns.length ∧ i = .int .i64 k ∧ J (ns.take k) wr ∧ Below n₀ W wr
theorem take_snoc {α : Type} (ns : List α) (k : Nat) (x : α) (h : ns[k]? = some x) : ns.take (k + 1) = ns.take k ++ [x] := by
  rw [List.take_add_one, h]; rfl
set_option maxHeartbeats 4000000 in
theorem all_stops (ns : List Nt) (hlen : ns.length ≤ 100) (n : Nat) (hn : 1 ≤ n) (B n₀ : Nat) (v : Value) (w : World) (hn₀ : n₀ ≤ w.heap.size) (hA : AllAt w B v ns) (hB : B < n₀) (hv : ∀ k, v.ownBlock = some k → k < n₀) :
    SeqStopsK Fence.wide n Try.prog 22 #[.pointer (some ⟨B, 0, none⟩)] (fun x : Nt => #[x.v]) (Below n₀) (fun xs => xs = ns) (fun pre => ∃ k, 0 < k ∧ k ≤ ns.length ∧ pre = ns.take k) ns.length w := fun l J Jx W hW hJ hJx hY h0 => by
  have hW0 := hW.size
  have hA1 := hA.next hW
  have c := hA1.c
  rcases hA1.src with ⟨rfl, rfl⟩ | ⟨b, off, cp, rfl, s1, s2, s3, s4⟩
  · refine callsIn_of_wp Try.func22 rfl trivial ?_ rfl
    simp only [Try.ntmps22, List.size_toArray, List.length_cons, List.length_nil, Nat.reduceAdd, Nat.reduceSub, Array.replicate_succ, Array.replicate_zero, List.push_toArray, List.append_toArray, List.nil_append, List.cons_append]
    gi_wp2
    gi_loopw [7] (fun i wr => i = .int .i64 0 ∧ J [] wr) (fun _ _ => 0)
    case atStart => exact ⟨rfl, h0⟩
    case round =>
      obtain ⟨rfl, hJ0⟩ := hrel
      gi_wp2
      go_end0
      exact ⟨⟨_, rfl⟩, .inl ⟨_, rfl, hJ0⟩⟩
  · have hb : ns ≠ [] → b < n₀ := fun _ => hv b rfl
    refine callsIn_of_wp Try.func22 rfl trivial ?_ rfl
    simp only [Try.ntmps22, List.size_toArray, List.length_cons, List.length_nil, Nat.reduceAdd, Nat.reduceSub, Array.replicate_succ, Array.replicate_zero, List.push_toArray, List.append_toArray, List.nil_append, List.cons_append]
    have HS4 := hide s4
    clear s4
    gi_wp2
    gi_loopw [7] (fun i wr => ERel ns n₀ J W i wr) (fun i _ => ns.length - (intOf i).toNat)
    case atStart => exact ⟨0, Nat.zero_le _, rfl, h0, Below.refl _ _⟩
    case round =>
      obtain ⟨k, hk, rfl, hJk, hBl⟩ := hrel
      by_cases hlt : k < ns.length
      · obtain ⟨x, hx⟩ : ∃ x, ns[k]? = some x := ⟨ns[k], List.getElem?_eq_getElem hlt⟩
        have hne : ns ≠ [] := by rintro rfl; simp at hlt
        have hbW : b < W.heap.size := s3 hne
        obtain ⟨y0, y1, y2, y3, y4, y5, y6, y7, y8⟩ := src_at HS4.out k x hx
        have low : ∀ (o : Nat) (u : Value), W.cell? ⟨b, o, none⟩ = some u → wr.cell? ⟨b, o, none⟩ = some u := fun o u h => (hBl.cell (p := ⟨b, o, none⟩) (hb hne)).trans h
        have z0 := low _ _ y0
        have z1 := low _ _ y1
        have z2 := low _ _ y2
        have z3 := low _ _ y3
        have z4 := low _ _ y4
        have z5 := low _ _ y5
        have z6 := low _ _ y6
        have z7 := low _ _ y7
        have z8 := low _ _ y8
        have hJ2 := hide (hJ _ wr (wr.alloc (.cells x.arr 51)) none hJk (World.grownBy_alloc _ _ _) (fun r e => by cases e))
        have hbr : b < wr.heap.size := Nat.lt_of_lt_of_le hbW hBl.size
        have hts := hide (take_snoc ns k x hx)
        have hlk := hide (show (ns.take k).length < ns.length by rw [List.length_take]; omega)
        clear y0 y1 y2 y3 y4 y5 y6 y7 y8 hJk low
        obtain ⟨fn, tmps, assign, body, hy, hR⟩ := hY _ x (wr.alloc (.cells x.arr 51)) hJ2.out hlk.out
        gi_wp2
        refine hR.mono ?_
        rintro e W3 (⟨rfl, hJ3, hk3⟩ | ⟨rfl, hJx3⟩)
        · rw [← hts.out] at hJ3
          gi_wp2
          go_roundw
          case rel => exact ⟨k + 1, by omega, int_eq (by omega), hJ3, (hBl.alloc (by have := hBl.size; omega) _).trans hk3⟩
          case measure => simp [intOf]; omega
        · rw [← hts.out] at hJx3
          gi_wp2
          refine bodyPost_ret (results_none rfl _ _ _) rfl ?_
          exact ⟨⟨_, rfl⟩, .inr ⟨_, ⟨k + 1, by omega, by omega, rfl⟩, hJx3⟩⟩
      · obtain rfl : k = ns.length := by omega
        rw [List.take_length] at hJk
        gi_wp2
        go_end0
        exact ⟨⟨_, rfl⟩, .inl ⟨_, rfl, hJk⟩⟩
end Go.Proofs.Ytopfbmgmpihcnaa
