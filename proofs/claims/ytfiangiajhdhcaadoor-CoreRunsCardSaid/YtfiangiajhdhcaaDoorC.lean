/- A range over the numbers; May. -/
import Derived.Test.YtfiangiajhdhcaaDoorB
import Derived.WalkKit
import Derived.WalkSpells
import Derived.ProofKit
import Derived.Outline
import Derived.Handy
import Derived.RowKit3
import Derived.BigQuiet
import Derived.Deep.QuietTactic
import Derived.Deep.RegionHeld3
import Derived.Deep.Draws
import Derived.Deep.RegionLaw
import Derived.RegionTactic
import Derived.BigRegion
import Derived.IntWalk
import Derived.LoopTactic
import Derived.OwnWalk
import Derived.Laws.AppendOwn
import Derived.Laws.OwnMore
import Derived.Laws.MakeOwn
import Derived.Laws.Pointers
import Derived.Maps.AppendAt
import Derived.Deep.AppendLies
import Derived.Below
import Derived.RangeFuncNested
import Derived.RangeFuncBound
import Derived.RangeFuncCalls
import Derived.RangeFuncLeaves
import Derived.Shelf.Abstract
import Derived.LoopNIn
import Derived.LoopIn
import Derived.OwnWalkIn
import Derived.TacticsInMore
import Derived.Shelf.RegionOpen
namespace Go.Proofs.YtfiangiajhdhcaaDoor
open Go.Shelf Go.RowKit
set_option linter.unusedVariables false
set_option maxRecDepth 100000

attribute [local go_sem] Oper.semAt_some
def ent (D : Nat) : Deferred := { target := .collected D, args := #[] }
theorem leaves_ds {F : Fence} {n : Nat} {P : Program} {fn : Func} {tmps : Array Value} {R : Ending → World → Prop} : ∀ (Ds : List Nat) (W : World), Ds.Nodup → (∀ D ∈ Ds, W.heap[D]? = some (.deferred (some []))) →
    (∀ W', Fr (fun k => k ∈ Ds) W W' → LeavesIn F n P fn tmps R [] .returning W') → LeavesInM F n P fn tmps R (Ds.map ent) .returning W := by
  intro Ds
  induction Ds with
  | nil => intro W _ _ h; exact h W (Fr.refl _ _)
  | cons D Ds ih =>
    intro W hn hD h
    rw [List.nodup_cons] at hn
    refine ⟨by simp, .inl ⟨D, W.putObj D (.deferred none), rfl, run_takeDeferred (hD D (by simp)), ?_⟩⟩
    have f0 : Fr (fun k => k ∈ D :: Ds) W (W.putObj D (.deferred none)) := ⟨rfl, rfl, rfl, by simp, fun i hi hni => World.putObj_heap_other (by rintro rfl; exact hni (by simp))⟩
    refine ih _ hn.2 (fun E hE => ?_) (fun W' f => h W' (f0.trans f (fun i _ hi => List.mem_cons_of_mem _ hi)))
    exact (World.putObj_heap_other (by rintro rfl; exact hn.1 hE)).trans (hD E (List.mem_cons_of_mem _ hE))
/-- A range over an instruction's numbers, both variables in slots. -/
theorem rf_nums {Q : Exit → Act → World → Prop} {g : Operand} {assign body : Code} {a : Act} {w w0 : World} {lb : Array Value} {p q : Nat} (pb qb : Nat) {S : Nat → Prop} {op : Nat} {x y z : Int}
    (hg : a.eval g = .func (.func 82) #[] lb) (hseq : SeqStopsK Fence.wide (3 - 1) Tryd.prog 82 lb (fun i : Fin 3 => #[.int .i64 (kd op i), .int .i64 (nv x y z i)]) (Fc S) (fun xs => xs = [0, 1, 2]) (fun _ => True) 3 w0)
    (hb0 : Below w0.heap.size w0 w) (I : List (Fin 3) → World → Prop) (Ix : Code → List (Fin 3) → World → Prop) (hI : OwnFrom w.heap.size I) (hIx : ∀ c, OwnFrom w.heap.size (Ix c)) (h0 : I [] w)
    (hassign : ∀ (l : Nat) (pre : List (Fin 3)) (i : Fin 3) (W : World) (K : Act → World → Prop), I pre W → K { tmps := (((a.tmps.setIfInBounds p (.int .i64 (kd op i))).setIfInBounds q (.int .i64 (nv x y z i))).setIfInBounds pb (.int .i64 (kd op i))).setIfInBounds qb (.int .i64 (nv x y z i)), defers := [] } W →
      assign.wpIn (Fence.wide.inRound l) (3 - 1 - 1) Tryd.prog (Exit.then K (fun _ _ _ => False)) { tmps := (a.tmps.setIfInBounds p (.int .i64 (kd op i))).setIfInBounds q (.int .i64 (nv x y z i)), defers := [] } W)
    (hbody : ∀ (l : Nat) (pre : List (Fin 3)) (i : Fin 3) (W : World), w.heap.size ≤ l → (∃ r, W.heap[l]? = some (.loop r)) → I pre W → pre.length < 3 →
      body.wpIn (Fence.wide.inRound l) (3 - 1 - 1) Tryd.prog (ownPostG w.heap.size (Fc S) I Ix (pre ++ [i]) W) { tmps := (((a.tmps.setIfInBounds p (.int .i64 (kd op i))).setIfInBounds q (.int .i64 (nv x y z i))).setIfInBounds pb (.int .i64 (kd op i))).setIfInBounds qb (.int .i64 (nv x y z i)), defers := [] } W)
    (hdone : ∀ (D : Nat) (W : World), w.heap.size ≤ D → I [0, 1, 2] W → W.heap[D]? = some (.deferred (some [])) → Q .normal { a with defers := ent D :: a.defers } W)
    (hstop : ∀ (D : Nat) (c : Code) (pre : List (Fin 3)) (W : World), w.heap.size ≤ D → Ix c pre W → W.heap[D]? = some (.deferred (some [])) → c.wpIn Fence.wide 3 Tryd.prog Q { a with defers := ent D :: a.defers } W) :
    (Code.rangeFunc g #[p, q] assign body).wpIn Fence.wide 3 Tryd.prog Q a w := by
  refine wpIn_rangeFunc_ownH rfl (by omega) hg trivial (enters_of Tryd.func82 (by kernel_rfl) rfl) hseq (fun h k => h.trans k) (fun W l o o' hl ho hc _ => Fc.put o' ho hc) hb0 (fun _ => rfl)
    I Ix hI hIx h0
    (fun i a' W => a' = ({ tmps := (((a.tmps.setIfInBounds p (.int .i64 (kd op i))).setIfInBounds q (.int .i64 (nv x y z i))).setIfInBounds pb (.int .i64 (kd op i))).setIfInBounds qb (.int .i64 (nv x y z i)), defers := [] } : Act)) ?_ ?_ ?_ ?_ ?_
  · rintro i a' _ A A' row h hg hr
    exact h
  · intro l pre i W K hi hK
    have e : (#[p, q].zip #[Value.int .i64 (kd op i), Value.int .i64 (nv x y z i)]).foldl (fun t (p, v) => t.setIfInBounds p v) a.tmps = (a.tmps.setIfInBounds p (.int .i64 (kd op i))).setIfInBounds q (.int .i64 (nv x y z i)) := by
      simp
    rw [e]
    exact hassign l pre i W K hi (hK _ _ (KeepsFrom.refl _ _) (Fc.refl _ _) hi rfl)
  · rintro l pre i a' W hl hr hi rfl hlt
    exact hbody l pre i W hl hr hi hlt
  · rintro D xs W hD rfl hi hK
    exact hdone D W hD hi hK
  · intro D c pre W hD hp hi hK
    exact hstop D c pre W hD hi hK
/-- The two blocks that May keeps its arguments in. -/
def W2 (w : World) (o a b c m : Int) : World := (w.alloc (.cells #[.int .i64 o, .int .i64 a, .int .i64 b, .int .i64 c] 23)).alloc (.cells #[.int .i64 m] 3)
theorem W2_at (w : World) (o a b c m : Int) (i : Nat) (v : Value) (h : (#[.int .i64 o, .int .i64 a, .int .i64 b, .int .i64 c] : Array Value)[i]? = some v) : (W2 w o a b c m).cell? ⟨w.heap.size, i, none⟩ = some v :=
  (World.cell?_alloc_lt _ _ ⟨w.heap.size, i, none⟩ (by simp)).trans ((World.cell?_alloc_new w _ 23 i).trans h)
theorem W2_m (w : World) (o a b c m : Int) : (W2 w o a b c m).cell? ⟨w.heap.size + 1, 0, none⟩ = some (.int .i64 m) := by
  simp [W2]
theorem May_bad (o a b c m : Int) (h : ¬ (1 ≤ o ∧ o ≤ 11)) (w : World) : Calls Tryd.prog 15 #[.agg #[.int .i64 o, .int .i64 a, .int .i64 b, .int .i64 c], .int .i64 m] w fun r w' => r = .returned (.int .i64 15) ∧ Below w.heap.size w w' := by
  have hi := hide (decide_eq_false h)
  have x0 : ((w.alloc (.cells #[.int .i64 o, .int .i64 a, .int .i64 b, .int .i64 c] 23)).alloc (.cells #[.int .i64 m] 3)).cell? ⟨w.heap.size, 0, none⟩ = some (.int .i64 o) := W2_at w o a b c m 0 _ rfl
  have x1 : ((w.alloc (.cells #[.int .i64 o, .int .i64 a, .int .i64 b, .int .i64 c] 23)).alloc (.cells #[.int .i64 m] 3)).cell? ⟨w.heap.size, 1, none⟩ = some (.int .i64 a) := W2_at w o a b c m 1 _ rfl
  have x2 : ((w.alloc (.cells #[.int .i64 o, .int .i64 a, .int .i64 b, .int .i64 c] 23)).alloc (.cells #[.int .i64 m] 3)).cell? ⟨w.heap.size, 2, none⟩ = some (.int .i64 b) := W2_at w o a b c m 2 _ rfl
  have x3 : ((w.alloc (.cells #[.int .i64 o, .int .i64 a, .int .i64 b, .int .i64 c] 23)).alloc (.cells #[.int .i64 m] 3)).cell? ⟨w.heap.size, 3, none⟩ = some (.int .i64 c) := W2_at w o a b c m 3 _ rfl
  have hsz : w.heap.size < ((w.alloc (.cells #[.int .i64 o, .int .i64 a, .int .i64 b, .int .i64 c] 23)).alloc (.cells #[.int .i64 m] 3)).heap.size := by simp; omega
  go_enter Tryd.func15, Tryd.ntmps15
  go_wp2_with fail
  go_step3
  go_wp2_with fail
  refine (is_f o false hi.out _).mono ?_
  rintro r w1 ⟨rfl, rfl⟩
  go_wp2
  rw [Exit.noGoto_ret]
  go_ret
  exact ⟨rfl, ((Below.refl _ _).alloc (Nat.le_refl _) _).alloc (by simp) _⟩
theorem kf_set (B : Nat) (W W1 : World) (h : W1.heap = W.heap) (a : Addr) (u : Value) : KeepsFrom B W (W1.setCell a u) := by
  have := (KeepsOthers.setCell W1 a u).from B
  exact ⟨by rw [← h]; exact this.size, fun k o hB hk ho => this.same k o hB (by rw [h]; exact hk) ho⟩
theorem kf_below {B : Nat} {W X : World} (h : Below W.heap.size W X) : KeepsFrom B W X := ⟨h.size, fun k o _ hk _ => (h.block k (Array.getElem?_eq_some_iff.1 hk).1).trans hk⟩
/-- May, under way: the numbers so far may be. -/
def IM (w0 : World) (N : Nat) (op : Nat) (a b c m : Int) (pre : List (Fin 3)) (W : World) : Prop :=
  Below N w0 W ∧ N + 3 < W.heap.size ∧ W.cell? ⟨N + 1, 0, none⟩ = some (.int .i64 m) ∧ W.cell? ⟨N + 2, 0, none⟩ = some (.int .i64 0) ∧ W.frozen? ⟨N + 2, 0, none⟩ = false ∧ ∀ i ∈ pre, okn (kd op i) (nv a b c i) m = true
/-- May, ended: one may not be. -/
def IMx (w0 : World) (N : Nat) (op : Nat) (a b c m : Int) (cd : Code) (pre : List (Fin 3)) (W : World) : Prop :=
  cd = .exit 0 ∧ Below N w0 W ∧ N + 3 < W.heap.size ∧ W.cell? ⟨N + 2, 0, none⟩ = some (.int .i64 10) ∧ ∃ i : Fin 3, okn (kd op i) (nv a b c i) m = false
theorem IM.own {w0 : World} {N M : Nat} {op : Nat} {a b c m : Int} (h : N + 3 < M) : OwnFrom M (IM w0 N op a b c m) := by
  rintro s A B row ⟨h1, h2, h3, h4, h5, h6⟩ hg hr
  have f : Fr (fun k => row = some k) A B := ⟨hg.os, hg.tape, hg.output, hg.size, fun i hi hn => hg.block i hi (fun e => hn e.symm)⟩
  have q : ∀ k, k ≤ N + 3 → ¬ row = some k := fun k hk e => by have := (hr k e).1; omega
  exact ⟨h1.trans (f.below (by omega) (fun i hi => q i (by omega))), Nat.lt_of_lt_of_le h2 hg.size, (f.cell (by omega) (q _ (by omega))).trans h3, (f.cell (by omega) (q _ (by omega))).trans h4, (f.frozen (by omega) (q _ (by omega))).trans h5, h6⟩
theorem IMx.own {w0 : World} {N M : Nat} {op : Nat} {a b c m : Int} (h : N + 3 < M) (cd : Code) : OwnFrom M (IMx w0 N op a b c m cd) := by
  rintro s A B row ⟨h0, h1, h2, h4, h6⟩ hg hr
  have f : Fr (fun k => row = some k) A B := ⟨hg.os, hg.tape, hg.output, hg.size, fun i hi hn => hg.block i hi (fun e => hn e.symm)⟩
  have q : ∀ k, k ≤ N + 3 → ¬ row = some k := fun k hk e => by have := (hr k e).1; omega
  exact ⟨h0, h1.trans (f.below (by omega) (fun i hi => q i (by omega))), Nat.lt_of_lt_of_le h2 hg.size, (f.cell (by omega) (q _ (by omega))).trans h4, h6⟩
theorem May_ok (op : Nat) (a b c m : Int) (h1 : 1 ≤ op) (h11 : op ≤ 11) (v : Bool) (hv : (okn (kd op 0) a m && okn (kd op 1) b m && okn (kd op 2) c m) = v) (w : World) (T : Tab w) : Calls Tryd.prog 15 #[.agg #[.int .i64 op, .int .i64 a, .int .i64 b, .int .i64 c], .int .i64 m] w fun r w' => r = .returned (.int .i64 (if v then 0 else 10)) ∧ Below w.heap.size w w' := by
  have hi := hide (show decide (1 ≤ (op : Int) ∧ (op : Int) ≤ 11) = true by simp; omega)
  have HT := hide T
  clear T
  have x0 : ((w.alloc (.cells #[.int .i64 op, .int .i64 a, .int .i64 b, .int .i64 c] 23)).alloc (.cells #[.int .i64 m] 3)).cell? ⟨w.heap.size, 0, none⟩ = some (.int .i64 op) := W2_at w op a b c m 0 _ rfl
  have x1 : ((w.alloc (.cells #[.int .i64 op, .int .i64 a, .int .i64 b, .int .i64 c] 23)).alloc (.cells #[.int .i64 m] 3)).cell? ⟨w.heap.size, 1, none⟩ = some (.int .i64 a) := W2_at w op a b c m 1 _ rfl
  have x2 : ((w.alloc (.cells #[.int .i64 op, .int .i64 a, .int .i64 b, .int .i64 c] 23)).alloc (.cells #[.int .i64 m] 3)).cell? ⟨w.heap.size, 2, none⟩ = some (.int .i64 b) := W2_at w op a b c m 2 _ rfl
  have x3 : ((w.alloc (.cells #[.int .i64 op, .int .i64 a, .int .i64 b, .int .i64 c] 23)).alloc (.cells #[.int .i64 m] 3)).cell? ⟨w.heap.size, 3, none⟩ = some (.int .i64 c) := W2_at w op a b c m 3 _ rfl
  have hsz : w.heap.size < ((w.alloc (.cells #[.int .i64 op, .int .i64 a, .int .i64 b, .int .i64 c] 23)).alloc (.cells #[.int .i64 m] 3)).heap.size := by simp; omega
  refine (callsIn_wide (n := 3)).1 ?_
  refine callsIn_of_wp_marks Tryd.func15 rfl trivial ?_ rfl
  simp only [Tryd.ntmps15, List.size_toArray, List.length_cons, List.length_nil, Nat.reduceAdd, Nat.reduceSub, Array.replicate_succ, Array.replicate_zero, List.push_toArray, List.append_toArray, List.nil_append, List.cons_append]
  refine wpIn_wide.2 ?_
  go_wp2_with fail
  go_step3
  go_wp2_with fail
  refine (is_f op true hi.out _).mono ?_
  rintro r w1 ⟨rfl, rfl⟩
  go_wp2_with fail
  go_step3
  go_wp2_with fail
  refine (num_f op a b c _).mono ?_
  rintro r w3 ⟨rfl, hins, hb3⟩
  go_wp2_with fail
  obtain ⟨N, hN⟩ : ∃ N, w.heap.size = N := ⟨_, rfl⟩
  have e3 : (((w.alloc (.cells #[.int .i64 op, .int .i64 a, .int .i64 b, .int .i64 c] 23)).alloc (.cells #[.int .i64 m] 3)).alloc (.cells #[.int .i64 0] 24)).heap.size = N + 3 := by simp [hN]
  have x4 : (((w.alloc (.cells #[.int .i64 op, .int .i64 a, .int .i64 b, .int .i64 c] 23)).alloc (.cells #[.int .i64 m] 3)).alloc (.cells #[.int .i64 0] 24)).cell? ⟨N + 1, 0, none⟩ = some (.int .i64 m) := by
    rw [← hN]
    exact (World.cell?_alloc_lt _ _ ⟨w.heap.size + 1, 0, none⟩ (by simp)).trans (W2_m w op a b c m)
  have x5 : (((w.alloc (.cells #[.int .i64 op, .int .i64 a, .int .i64 b, .int .i64 c] 23)).alloc (.cells #[.int .i64 m] 3)).alloc (.cells #[.int .i64 0] 24)).cell? ⟨N + 2, 0, none⟩ = some (.int .i64 0) := by
    have h := World.cell?_alloc_new (W2 w op a b c m) #[.int .i64 0] 24 0
    rw [show (W2 w op a b c m).heap.size = w.heap.size + 2 by simp [W2], hN] at h
    exact h
  have x6 : (((w.alloc (.cells #[.int .i64 op, .int .i64 a, .int .i64 b, .int .i64 c] 23)).alloc (.cells #[.int .i64 m] 3)).alloc (.cells #[.int .i64 0] 24)).frozen? ⟨N + 2, 0, none⟩ = false := by
    have h := World.frozen?_alloc_new (W2 w op a b c m) #[.int .i64 0] 24 0
    rw [show (W2 w op a b c m).heap.size = w.heap.size + 2 by simp [W2], hN] at h
    exact h
  have b4 : Below w.heap.size w (((w.alloc (.cells #[.int .i64 op, .int .i64 a, .int .i64 b, .int .i64 c] 23)).alloc (.cells #[.int .i64 m] 3)).alloc (.cells #[.int .i64 0] 24)) := (((Below.refl _ _).alloc (Nat.le_refl _) _).alloc (by simp) _).alloc (by simp; omega) _
  have T4 := HT.out.next b4
  rw [e3] at hins
  have hs3 := hins.1
  have T3 : Tab w3 := T4.next hb3
  rw [e3] at hb3
  have hIM := hide (show IM w N op a b c m [] w3 from ⟨by rw [← hN]; exact b4.trans (hb3.mono (by omega)), hs3, (hb3.cell (p := ⟨N + 1, 0, none⟩) (by show N + 1 < N + 3; omega)).trans x4, (hb3.cell (p := ⟨N + 2, 0, none⟩) (by show N + 2 < N + 3; omega)).trans x5, (hb3.frozen (p := ⟨N + 2, 0, none⟩) (by show N + 2 < N + 3; omega)).trans x6, fun i hi => by cases hi⟩)
  have HQ := hide (nums_i (fun k => k = N + 2) op a b c (by omega) (3 - 1) (by omega) (N + 3) w3 (fun k e => by subst e; omega) T3 hins)
  have HV := hide hv
  clear x0 x1 x2 x3 x4 x5 x6 hsz b4 T4 T3 hb3 hv hins hi
  refine (wpIn_wide (n := 3)).1 ?_
  refine rf_nums 6 7 (by simp [Act.eval, hN]) HQ.out (Below.refl _ _) (IM w N op a b c m) (IMx w N op a b c m) (IM.own hs3) (IMx.own hs3) hIM.out ?assign ?body ?done ?stop
  all_goals subst hN
  case assign =>
    intro l pre i W K hi hK
    gi_wp2
    exact hK
  case body =>
    rintro l pre i W hl ⟨rr, hrr⟩ ⟨q1, q2, q3, q4, q5, q6⟩ hlen
    have z3 : W.cell? ⟨w.heap.size + 1, 0, none⟩ = some (.int .i64 m) := q3
    have z5 : W.cell? ⟨w.heap.size + 1 + 1, 0, none⟩ = some (.int .i64 0) := q4
    have z6 : W.frozen? ⟨w.heap.size + 1 + 1, 0, none⟩ = false := q5
    have hkd := hide (kd_le op i (by omega) i.isLt)
    have hsl := hide hlen
    clear q3 q4 q5 hrr hlen
    gi_wp2_with fail
    refine ⟨trivial, ?_⟩
    refine (CallsIn.inRound l (callsIn_wide.2 (may_k (kd op i) hkd.out (nv a b c i) m _ rfl _))).mono ?_
    rintro r w5 ⟨rfl, rfl⟩
    cases hk : okn (kd op i) (nv a b c i) m
    · have HK := hide hk
      clear hk
      gi_wp2
      exact ⟨kf_set _ _ _ rfl _ _, rfl, q1.setCell (p := ⟨w.heap.size + 1 + 1, 0, none⟩) (by show w.heap.size ≤ w.heap.size + 1 + 1; omega) _, by simpa [World.setCell] using q2, World.cell?_setCell_same' _ _ _ (by rw [z5]; rfl), i, HK.out⟩
    · have HK := hide hk
      clear hk
      gi_wp2
      exact ⟨KeepsFrom.refl _ _, Fc.refl _ _, q1, q2, z3, z5, z6, fun j hj => by
        rcases List.mem_append.1 hj with h | h
        · exact q6 j h
        · rw [List.mem_singleton.1 h]; exact HK.out⟩
  case done =>
    rintro D W hD ⟨q1, q2, q3, q4, q5, q6⟩ hK
    have z5 : W.cell? ⟨w.heap.size + 1 + 1, 0, none⟩ = some (.int .i64 0) := q4
    have hvt : v = true := by
      rw [← HV.out]
      have g0 := q6 0 (by simp)
      have g1 := q6 1 (by simp)
      have g2 := q6 2 (by simp)
      simp [nv] at g0 g1 g2
      simp [g0, g1, g2]
    subst hvt
    have HK := hide hK
    have Q1 := hide q1
    clear q1 q3 q4 q5 q6 hK
    go_wp2
    rw [Exit.noGoto_ret]
    refine leaves_ds [D] _ (by simp) (fun D' hD' => by rw [List.mem_singleton.1 hD']; exact HK.out) (fun W'' kf => ?_)
    exact ⟨.int .i64 0, by simp [results, Tryd.f15, go_sem], rfl, Q1.out.trans (kf.below (by omega) (fun i hi e => by have := List.mem_singleton.1 e; omega))⟩
  case stop =>
    rintro D cd pre W hD ⟨rfl, q1, q2, q4, i, hi⟩ hK
    have z5 : W.cell? ⟨w.heap.size + 1 + 1, 0, none⟩ = some (.int .i64 10) := q4
    have hvt : v = false := by
      rw [← HV.out]
      have e : i = 0 ∨ i = 1 ∨ i = 2 := by omega
      rcases e with rfl | rfl | rfl <;> simp [nv] at hi <;> simp [hi]
    subst hvt
    have HK := hide hK
    have Q1 := hide q1
    clear q1 q4 hi hK
    refine wpIn_wide.2 ?_
    go_wp2
    rw [Exit.noGoto_ret]
    refine leaves_ds [D] _ (by simp) (fun D' hD' => by rw [List.mem_singleton.1 hD']; exact HK.out) (fun W'' kf => ?_)
    exact ⟨.int .i64 10, by simp [results, Tryd.f15, go_sem], rfl, Q1.out.trans (kf.below (by omega) (fun i hi e => by have := List.mem_singleton.1 e; omega))⟩
/-- What is wrong with an instruction. -/
def mayE (o a b c m : Int) : Int := if 1 ≤ o ∧ o ≤ 11 then (if (okn (kd o.toNat 0) a m && okn (kd o.toNat 1) b m && okn (kd o.toNat 2) c m) = true then 0 else 10) else 15
theorem May_any (o a b c m : Int) (w : World) (T : Tab w) : Calls Tryd.prog 15 #[.agg #[.int .i64 o, .int .i64 a, .int .i64 b, .int .i64 c], .int .i64 m] w fun r w' => r = .returned (.int .i64 (mayE o a b c m)) ∧ Below w.heap.size w w' := by
  by_cases h : 1 ≤ o ∧ o ≤ 11
  · obtain ⟨op, rfl⟩ : ∃ n : Nat, o = n := ⟨o.toNat, by omega⟩
    refine (May_ok op a b c m (by omega) (by omega) _ rfl w T).mono ?_
    rintro r w' ⟨rfl, hb⟩
    refine ⟨ret_int ?_, hb⟩
    rw [mayE, if_pos h, Int.toNat_natCast]
  · refine (May_bad o a b c m h w).mono ?_
    rintro r w' ⟨rfl, hb⟩
    exact ⟨ret_int (by rw [mayE, if_neg h]), hb⟩
end Go.Proofs.YtfiangiajhdhcaaDoor
