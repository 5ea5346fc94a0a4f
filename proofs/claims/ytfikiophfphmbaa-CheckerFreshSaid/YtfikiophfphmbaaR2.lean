/- All, gone through. -/
import Derived.Test.YtfikiophfphmbaaR1
import Derived.WalkKit
import Derived.WalkSpells
import Derived.ProofKit
import Derived.Outline
import Derived.Handy
import Derived.RowKit3
import Derived.BigQuiet
import Derived.Deep.QuietTactic
import Derived.Deep.RegionHeld3
import Derived.Deep.Draws
import Derived.Deep.RegionLaw
import Derived.RegionTactic
import Derived.BigRegion
import Derived.IntWalk
import Derived.LoopTactic
import Derived.OwnWalk
import Derived.Laws.AppendOwn
import Derived.Laws.OwnMore
import Derived.Laws.MakeOwn
import Derived.Laws.Pointers
import Derived.Maps.AppendAt
import Derived.Deep.AppendLies
import Derived.Below
import Derived.RangeFuncNested
import Derived.RangeFuncBound
import Derived.RangeFuncCalls
import Derived.RangeFuncLeaves
import Derived.Shelf.Abstract
import Derived.LoopNIn
import Derived.LoopIn
import Derived.OwnWalkIn
import Derived.TacticsInMore
namespace Go.Proofs.Ytfikiophfphmbaa
open Go.RowKit
set_option linter.unusedVariables false
set_option maxRecDepth 100000

theorem nil_slice (E n cp : Nat) (w : World) : Sem.run Try.prog (binOp BinOp.eql 66 (.slice (some ⟨E, 0, none⟩) n cp) (.slice none 0 0)) w = Result.ok (.bool false) w := by kernel_rfl
theorem nil_slice0 (w : World) : Sem.run Try.prog (binOp BinOp.eql 66 (.slice none 0 0) (.slice none 0 0)) w = Result.ok (.bool true) w := by kernel_rfl
def CloR (ks : List (Int × Int)) (w : World) (r : Ending) (w' : World) : Prop := ∃ v, r = .returned v ∧ w'.ownsRow w.heap.size 74 2 v ks.length (kcells ks) ∧ Below w.heap.size w w'
def AllR (ks : List (Int × Int)) (w : World) (r : Ending) (w' : World) : Prop := r = .returned (.func (.func 38) #[] #[.pointer (some ⟨w.heap.size, 0, none⟩)]) ∧ ∃ v, w.heap.size < w'.heap.size ∧ w'.cell? ⟨w.heap.size, 0, none⟩ = some v ∧ w'.ownsRow (w.heap.size + 1) 74 2 v ks.length (kcells ks) ∧ Below w.heap.size w w'
section
variable {P en gs : Nat} {ws st : Bool} {gr at_ : Int} {v : Value} {ks : List (Int × Int)}
set_option maxHeartbeats 2000000 in
theorem clone_k (w : World) (h : Ck w P ws st gr at_ en gs v ks) : Calls Try.prog 37 #[v] w (CloR ks w) := by
  obtain ⟨i0, hi, hz0, hz1, hz2⟩ := info_parts info74
  have hle := h.le
  have h8 := h.e8
  rcases h.form with ⟨rfl, rfl⟩ | ⟨g0, cp, rfl, k1, k2, k3, -, k4⟩
  · clear h
    have hn0 := nil_slice0
    go_enter Try.func37, Try.ntmps37
    go_wp2
    go_ret
    exact ⟨_, rfl, World.ownsRow_nil _ _ _ _, Below.refl _ _⟩
  · have hmk := hide (World.ownsRow_made (base := w.heap.size) (e := 74) (size := 2) w #[] 0 (Nat.le_refl _) (by unfold maxLen; omega) rfl)
    have hns := nil_slice g0 ks.length cp
    have hnews : Hid (∀ j u, (kcells ks)[j]? = some u → (w.alloc (.cells #[] 74)).cell? ((⟨g0, 0, none⟩ : Addr).add j) = some u) := hide (fun j u hu => by rw [add_plain, Nat.zero_add]; exact (World.cell?_alloc_lt w _ ⟨g0, j, none⟩ k3).trans (k4 j u hu))
    have hl := hide (kcells_len ks)
    obtain ⟨K, hK⟩ : ∃ K, K = kcells ks := ⟨_, rfl⟩
    have h1 := hide (kcells_cell ks)
    unfold CloR
    rw [← hK] at hnews hl h1 ⊢
    clear h k4 hK
    go_enter Try.func37, Try.ntmps37
    go_wp2_with (at_builtin; refine wpList_append_own _ rfl _ _ 66 rfl w.heap.size 74 i0 (.agg #[.int .i64 0, .int .i64 0]) 2 16 Try.underlying66 hi hz0 hz1 hz2 rfl (by decide) _ _ _ rfl hmk.out ⟨g0, 0, none⟩ ks.length cp K rfl hl.out hnews.out h1.out (by unfold maxLen; omega) (by omega) (by simp) ?_; intro v' w1 hown' hgrow _)
    refine bodyPost_ret (v := v') (by simp [results, Try.results37, go_sem]) rfl ?_
    refine ⟨v', rfl, ?_, ((Below.refl w.heap.size w).alloc (Nat.le_refl _) _).grown hgrow (by simp) (fun j hj => (hmk.out.lt j hj).1)⟩
    simpa using hown'
set_option maxHeartbeats 2000000 in
theorem all_k (w : World) (h : Ck w P ws st gr at_ en gs v ks) : Calls Try.prog 16 #[.pointer (some ⟨P, 0, none⟩)] w (AllR ks w) := by
  have b0 := (Below.refl w.heap.size w).alloc (Nat.le_refl _) (.cells #[.slice none 0 0] 66)
  have H1 := hide (h.next b0)
  have c6 := H1.out.c6
  have HV := hide h.form
  clear h
  obtain ⟨sa, sl, sc, rfl⟩ : ∃ a l c, v = .slice a l c := by
    rcases HV.out with ⟨rfl, -⟩ | ⟨g0, cp, rfl, -⟩
    · exact ⟨_, _, _, rfl⟩
    · exact ⟨_, _, _, rfl⟩
  go_enter Try.func16, Try.ntmps16
  go_wp2_with fail
  refine (clone_k _ H1.out).mono ?_
  rintro r w1 ⟨v2, rfl, hown, hb⟩
  have s1 : w.heap.size < w1.heap.size := Nat.lt_of_lt_of_le (by simp) hb.size
  have c0 : w1.cell? ⟨w.heap.size, 0, none⟩ = some (.slice none 0 0) := (hb.cell (p := ⟨w.heap.size, 0, none⟩) (by simp)).trans (World.cell?_alloc_new w _ 66 0)
  have f0 : w1.frozen? ⟨w.heap.size, 0, none⟩ = false := (hb.frozen (p := ⟨w.heap.size, 0, none⟩) (by simp)).trans (World.frozen?_alloc_new w _ 66 0)
  have B1 := hide (below_alloc hb)
  have hown2 : w1.ownsRow (w.heap.size + 1) 74 2 v2 ks.length (kcells ks) := by
    have e : (w.alloc (.cells #[.slice none 0 0] 66)).heap.size = w.heap.size + 1 := by simp
    rwa [e] at hown
  have HO := hide hown2
  clear hb hown hown2 c6
  have fin : ∀ u, w1.ownsRow (w.heap.size + 1) 74 2 u ks.length (kcells ks) → (w1.setCell ⟨w.heap.size, 0, none⟩ u).ownsRow (w.heap.size + 1) 74 2 u ks.length (kcells ks) := fun u hu =>
    ownsRow_fr hu ((Fr.refl (fun k => k = w.heap.size) w1).setCell (p := ⟨w.heap.size, 0, none⟩) (fun _ => rfl) u) (fun k hk e => by have := (hu.lt k hk).1; omega)
  have FIN := hide fin
  clear fin
  have hform : v2 = .slice none 0 0 ∨ ∃ g cp, v2 = .slice (some ⟨g, 0, none⟩) ks.length cp := by
    rcases HO.out.2 with ⟨h1, _⟩ | ⟨g, cap, cur, hv, _⟩
    · exact .inl h1
    · exact .inr ⟨g, cap, hv⟩
  rcases hform with rfl | ⟨g, cp, rfl⟩
  all_goals
    go_wp2
    go_ret
    exact ⟨rfl, _, by simpa [World.setCell] using s1, World.cell?_setCell_same' _ _ _ (by rw [c0]; rfl), FIN.out _ HO.out, B1.out.setCell (p := ⟨w.heap.size, 0, none⟩) (Nat.le_refl _) _⟩
end
/-- One that is known. -/
abbrev Mk (ks : List (Int × Int)) := {x : Int × Int // x ∈ ks}
def KRel {ks : List (Int × Int)} (S : Nat → Prop) (J : List (Mk ks) → World → Prop) (W : World) (i : Value) (wr : World) : Prop :=
  ∃ k : Nat, k ≤ ks.length ∧ i = .int .i64 k ∧ J (ks.attach.take k) wr ∧ Fr S W wr
theorem attach_snoc (ks : List (Int × Int)) (k : Nat) (x : Int × Int) (hx : ks[k]? = some x) (hm : x ∈ ks) : ks.attach.take (k + 1) = ks.attach.take k ++ [⟨x, hm⟩] := by
  have hk : k < ks.length := (List.getElem?_eq_some_iff.1 hx).1
  rw [List.take_succ_eq_append_getElem (by simpa using hk)]
  congr 1
  simp
  rw [List.getElem?_eq_getElem hk] at hx
  injection hx
set_option maxHeartbeats 4000000 in
theorem all_stops2 (S : Nat → Prop) (ks : List (Int × Int)) (hlen : ks.length ≤ 100) (n : Nat) (hn : 1 ≤ n) (base B : Nat) (v : Value) (w : World) (hB : B < w.heap.size) (hc0 : w.cell? ⟨B, 0, none⟩ = some v) (hown : w.ownsRow base 74 2 v ks.length (kcells ks)) (hv : ∀ k, v.ownBlock = some k → ¬ S k) :
    SeqStopsK Fence.wide n Try.prog 38 #[.pointer (some ⟨B, 0, none⟩)] (fun x : Mk ks => #[.int .i64 x.1.1, .int .i64 x.1.2]) (Fr S) (fun xs => xs = ks.attach) (fun pre => ∃ k, pre = ks.attach.take k) ks.length w := fun l J Jx W hW hJ hJx hY h0 => by
  have c := cell_next hW hB hc0
  have hown1 := ownsRow_fr hown (Fr.of_below (S := fun _ => False) hW) (fun _ _ e => e)
  rcases hown1.2 with ⟨rfl, he⟩ | ⟨g, cap, cur, rfl, hb, hg, hcc, hm, hs, ht⟩
  · have hn0 : ks = [] := List.eq_nil_of_length_eq_zero he
    subst hn0
    refine callsIn_of_wp Try.func38 rfl trivial ?_ rfl
    simp only [Try.ntmps38, List.size_toArray, List.length_cons, List.length_nil, Nat.reduceAdd, Nat.reduceSub, Array.replicate_succ, Array.replicate_zero, List.push_toArray, List.append_toArray, List.nil_append, List.cons_append]
    gi_wp2
    gi_loopw [7] (fun i wr => i = .int .i64 0 ∧ J [] wr) (fun _ _ => 0)
    case atStart => exact ⟨rfl, h0⟩
    case round =>
      obtain ⟨rfl, hJ0⟩ := hrel
      gi_wp2
      go_end0
      exact ⟨⟨_, rfl⟩, .inl ⟨_, rfl, hJ0⟩⟩
  · have hgW : g < W.heap.size := (Array.getElem?_eq_some_iff.1 hg).1
    have hgS : ¬ S g := hv g rfl
    have hcell : ∀ j u, (kcells ks)[j]? = some u → W.cell? ⟨g, j, none⟩ = some u := fun j u hu => (hown1.cellAt j (by rw [← kcells_len]; exact (List.getElem?_eq_some_iff.1 hu).1)).trans hu
    have HC := hide hcell
    clear hcell hown1 hown ht hs hg
    refine callsIn_of_wp Try.func38 rfl trivial ?_ rfl
    simp only [Try.ntmps38, List.size_toArray, List.length_cons, List.length_nil, Nat.reduceAdd, Nat.reduceSub, Array.replicate_succ, Array.replicate_zero, List.push_toArray, List.append_toArray, List.nil_append, List.cons_append]
    gi_wp2
    gi_loopw [7] (fun i wr => KRel S J W i wr) (fun i _ => ks.length - (intOf i).toNat)
    case atStart => exact ⟨0, Nat.zero_le _, rfl, h0, Fr.refl _ _⟩
    case round =>
      obtain ⟨k, hk, rfl, hJk, hBl⟩ := hrel
      by_cases hlt : k < ks.length
      · obtain ⟨x, hx⟩ : ∃ x, ks[k]? = some x := ⟨ks[k], List.getElem?_eq_getElem hlt⟩
        have hmem := List.mem_of_getElem? hx
        obtain ⟨e0, e1⟩ := kcells_get ks k x hx
        have z0 := (hBl.cell hgW hgS).trans (HC.out _ _ e0)
        have z1 := (hBl.cell hgW hgS).trans (HC.out _ _ e1)
        have hJ2 := hide (hJ _ wr (wr.alloc (.cells #[.int .i64 x.1, .int .i64 x.2] 74)) none hJk (World.grownBy_alloc _ _ _) (fun r e => by cases e))
        have hts := hide (attach_snoc ks k x hx hmem)
        have hlk := hide (show (ks.attach.take k).length < ks.length by rw [List.length_take, List.length_attach]; omega)
        clear e0 e1 hJk hx
        obtain ⟨fn, tmps, assign, body, hy, hR⟩ := hY _ ⟨x, hmem⟩ (wr.alloc (.cells #[.int .i64 x.1, .int .i64 x.2] 74)) hJ2.out hlk.out
        gi_wp2
        refine hR.mono ?_
        rintro e W3 (⟨rfl, hJ3, hk3⟩ | ⟨rfl, hJx3⟩)
        · rw [← hts.out] at hJ3
          gi_wp2
          go_roundw
          case rel => exact ⟨k + 1, by omega, int_eq (by omega), hJ3, (hBl.alloc _).trans hk3 (fun _ _ h => h)⟩
          case measure => simp [intOf]; omega
        · rw [← hts.out] at hJx3
          gi_wp2
          refine bodyPost_ret (results_none rfl _ _ _) rfl ?_
          exact ⟨⟨_, rfl⟩, .inr ⟨_, ⟨k + 1, rfl⟩, hJx3⟩⟩
      · obtain rfl : k = ks.length := by omega
        rw [List.take_of_length_le (by simp)] at hJk
        gi_wp2
        go_end0
        exact ⟨⟨_, rfl⟩, .inl ⟨_, rfl, hJk⟩⟩
def ent (D : Nat) : Deferred := { target := .collected D, args := #[] }
/-- A range over what is known, both variables in slots. -/
theorem rf_pair {Q : Exit → Act → World → Prop} {g : Operand} {assign body : Code} {a : Act} {w w0 : World} {Bx p q : Nat} (pb qb : Nat) {S : Nat → Prop} {ks : List (Int × Int)} {Sp : List (Mk ks) → Prop}
    (hg : a.eval g = .func (.func 38) #[] #[.pointer (some ⟨Bx, 0, none⟩)]) (hseq : SeqStopsK Fence.wide (3 - 1) Try.prog 38 #[.pointer (some ⟨Bx, 0, none⟩)] (fun x : Mk ks => #[.int .i64 x.1.1, .int .i64 x.1.2]) (Fr S) (fun xs => xs = ks.attach) Sp ks.length w0)
    (hS : ∀ k, w.heap.size ≤ k → S k) (hb0 : Below w0.heap.size w0 w) (I : List (Mk ks) → World → Prop) (Ix : List (Mk ks) → World → Prop) (hI : OwnFrom w.heap.size I) (hIx : OwnFrom w.heap.size Ix) (h0 : I [] w)
    (hassign : ∀ (l : Nat) (pre : List (Mk ks)) (x : Mk ks) (W : World) (K : Act → World → Prop), I pre W → K { tmps := (((a.tmps.setIfInBounds p (.int .i64 x.1.1)).setIfInBounds q (.int .i64 x.1.2)).setIfInBounds pb (.int .i64 x.1.1)).setIfInBounds qb (.int .i64 x.1.2), defers := [] } W →
      assign.wpIn (Fence.wide.inRound l) (3 - 1 - 1) Try.prog (Exit.then K (fun _ _ _ => False)) { tmps := (a.tmps.setIfInBounds p (.int .i64 x.1.1)).setIfInBounds q (.int .i64 x.1.2), defers := [] } W)
    (hbody : ∀ (l : Nat) (pre : List (Mk ks)) (x : Mk ks) (W : World), w.heap.size ≤ l → (∃ r, W.heap[l]? = some (.loop r)) → I pre W → pre.length < ks.length →
      body.wpIn (Fence.wide.inRound l) (3 - 1 - 1) Try.prog (ownPostG w.heap.size (Fr S) I (fun _ => Ix) (pre ++ [x]) W) { tmps := (((a.tmps.setIfInBounds p (.int .i64 x.1.1)).setIfInBounds q (.int .i64 x.1.2)).setIfInBounds pb (.int .i64 x.1.1)).setIfInBounds qb (.int .i64 x.1.2), defers := [] } W)
    (hdone : ∀ (D : Nat) (W : World), w.heap.size ≤ D → I ks.attach W → W.heap[D]? = some (.deferred (some [])) → Q .normal { a with defers := ent D :: a.defers } W)
    (hstop : ∀ (pre : List (Mk ks)) (W : World), Sp pre → Ix pre W → False) :
    (Code.rangeFunc g #[p, q] assign body).wpIn Fence.wide 3 Try.prog Q a w := by
  refine wpIn_rangeFunc_ownH rfl (by omega) hg trivial (enters_of Try.func38 (by kernel_rfl) rfl) hseq (fun h k => h.trans k (fun _ _ h => h)) (fun W l o o' hl _ _ _ => ⟨rfl, rfl, rfl, by simp, fun i hi hn => World.putObj_heap_other (by rintro rfl; exact hn (hS _ hl))⟩) hb0 (fun _ => rfl)
    I (fun _ => Ix) hI (fun _ => hIx) h0
    (fun x a' W => a' = ({ tmps := (((a.tmps.setIfInBounds p (.int .i64 x.1.1)).setIfInBounds q (.int .i64 x.1.2)).setIfInBounds pb (.int .i64 x.1.1)).setIfInBounds qb (.int .i64 x.1.2), defers := [] } : Act)) ?_ ?_ ?_ ?_ ?_
  · rintro x a' _ A A' row h hg hr
    exact h
  · intro l pre x W K hi hK
    have e : (#[p, q].zip #[Value.int .i64 x.1.1, Value.int .i64 x.1.2]).foldl (fun t (p, v) => t.setIfInBounds p v) a.tmps = (a.tmps.setIfInBounds p (.int .i64 x.1.1)).setIfInBounds q (.int .i64 x.1.2) := by
      simp
    rw [e]
    exact hassign l pre x W K hi (hK _ _ (KeepsFrom.refl _ _) (Fr.refl _ _) hi rfl)
  · rintro l pre x a' W hl hr hi rfl hlt
    exact hbody l pre x W hl hr hi hlt
  · rintro D xs W hD rfl hi hK
    exact hdone D W hD hi hK
  · intro D c pre W hD hp hi hK
    exact (hstop pre W hp hi).elim
end Go.Proofs.Ytfikiophfphmbaa
