/- Scrub, walked. -/
import Derived.Test.YtofgpcdhgkeccaaU
import Derived.WalkKit
import Derived.WalkSpells
import Derived.ProofKit
import Derived.Outline
import Derived.Handy
import Derived.RowKit3
import Derived.BigQuiet
import Derived.Deep.QuietTactic
import Derived.Deep.RegionHeld3
import Derived.Deep.Draws
import Derived.Deep.RegionLaw
import Derived.RegionTactic
import Derived.BigRegion
import Derived.IntWalk
import Derived.LoopTactic
import Derived.OwnWalk
import Derived.Laws.AppendOwn
import Derived.Laws.OwnMore
import Derived.Laws.MakeOwn
import Derived.Laws.Pointers
import Derived.Maps.AppendAt
import Derived.Deep.AppendLies
import Derived.Below
import Derived.RangeFuncNested
import Derived.RangeFuncBound
import Derived.RangeFuncCalls
import Derived.RangeFuncLeaves
import Derived.Shelf.Abstract
import Derived.Shelf.RegionOpen
import Derived.OwnWalkIn
import Derived.TacticsInMore
import Derived.LoopNIn
import Derived.LoopIn
namespace Go.Proofs.Ytofgpcdhgkeccaa
open Go.RowKit Go.Shelf
attribute [local go_sem] Oper.semAt_some
set_option linter.unusedVariables false
set_option maxRecDepth 100000


theorem write_z {q : Cfg} {M K : Nat} {L : Nat → Nat} {φ : Nat → Int} (z : Int) (i : Nat) (hz : z = (i : Int)) (hi : i < q.n) (x y : Int) (w : World) (hT : Mem w q M K L φ) :
    Calls Try.prog 24 #[.pointer (some ⟨M, 0, none⟩), .int .i64 z, .agg #[.int .i64 x, .int .i64 y]] w fun r w' => r = .returned (.int .i64 0) ∧ Mem w' q M K L (upd (upd φ (i * 2) x) (i * 2 + 1) y) ∧ Fr (Mem.S q M K L) w w' := by
  subst hz; exact write_in i hi x y w hT
theorem Mem.block {w : World} {q : Cfg} {M K : Nat} {L : Nat → Nat} {φ : Nat → Int} (h : Mem w q M K L φ) : ∀ k, Mem.S q M K L k → ∃ o : Obj, w.heap[k]? = some o ∧ o.isCells = true := by
  rintro k (rfl | rfl | ⟨j, h1, h2, rfl⟩)
  · exact cells_of_cell h.c0
  · have := q.G1
    obtain ⟨⟨r, e⟩, -⟩ := h.cnt 0 (by omega)
    exact cells_of_cell e
  · exact cells_of_cell (h.lns j 0 h1 (by omega)).2.2.2.1
theorem Mem.others {w w' : World} {q : Cfg} {M K : Nat} {L : Nat → Nat} {φ : Nat → Int} (h : Mem w q M K L φ) (f : Fr (Mem.S q M K L) w w') : KeepsOthers w w' := by
  refine ⟨f.size, fun k o hk ho => ?_⟩
  refine (f.block k (Array.getElem?_eq_some_iff.1 hk).1 (fun hS => ?_)).trans hk
  obtain ⟨o', h1, h2⟩ := h.block k hS
  rw [hk] at h1
  injection h1 with h1
  subst h1
  rw [ho] at h2
  cases h2
theorem Mem.own {w w' : World} {q : Cfg} {M K : Nat} {L : Nat → Nat} {φ : Nat → Int} {row : Option Nat} (h : Mem w q M K L φ) (hg : w.grownBy w' row) (hr : ∀ r, row = some r → ∃ o : Obj, w.heap[r]? = some o ∧ o.isCells = false) : Mem w' q M K L φ := by
  refine h.kept (Fr.of_grown' (S := fun k => row = some k) hg (fun E hE _ => hE)) (fun k hS e => ?_)
  obtain ⟨o, h1, h2⟩ := hr k e
  obtain ⟨o', h3, h4⟩ := h.block k hS
  rw [h1] at h3
  injection h3 with h3
  subst h3
  rw [h2] at h4
  cases h4
/-- What the walk of Scrub holds on to. -/
def Sc (w : World) (q : Cfg) (M K : Nat) (L : Nat → Nat) (ψ : Nat → Int) (e : Int) (W : World) : Prop :=
  Mem W q M K L ψ ∧ W.cell? ⟨w.heap.size, 0, none⟩ = some (.pointer (some ⟨M, 0, none⟩)) ∧ W.cell? ⟨w.heap.size + 1, 0, none⟩ = some (.int .i64 e) ∧ W.frozen? ⟨w.heap.size + 1, 0, none⟩ = false ∧ w.heap.size + 1 < W.heap.size ∧ Fr (Mem.S q M K L) w W
theorem Sc.own {β : Type} {w : World} {q : Cfg} {M K : Nat} {L : Nat → Nat} (B : Nat) (hB : w.heap.size ≤ B) (R : β → (Nat → Int) → Int → Prop) : OwnFrom B (fun s W => ∃ ψ e, R s ψ e ∧ Sc w q M K L ψ e W) := by
  rintro s A B' row ⟨ψ, e, hr0, hs⟩ hg hr
  have hk : ∀ r, row = some r → ∃ o : Obj, A.heap[r]? = some o ∧ o.isCells = false := fun r e => (hr r e).2
  obtain ⟨h1, h2, h3, h4, h5, h6⟩ := hs
  exact ⟨ψ, e, hr0, h1.own hg hk, cell_kept h2 hg hk, cell_kept h3 hg hk, (frozen_kept h3 hg hk).trans h4, Nat.lt_of_lt_of_le h5 hg.size, h6.trans (Fr.of_grown' (S := fun k => row = some k) hg (fun E hE _ => hE)) (fun i hi e => by have := (hr i e).1; omega)⟩
/-- What a write by a round leaves. -/
theorem Sc.write {w W W1 : World} {q : Cfg} {M K : Nat} {L : Nat → Nat} {ψ χ : Nat → Int} {e : Int} (h : Sc w q M K L ψ e W) (hM0 : ∀ k, Mem.S q M K L k → k < w.heap.size) (hm : Mem W1 q M K L χ) (f : Fr (Mem.S q M K L) W W1) : Sc w q M K L χ e W1 := by
  obtain ⟨h1, h2, h3, h4, h5, h6⟩ := h
  have n0 : ¬ Mem.S q M K L w.heap.size := fun h => by have := hM0 _ h; omega
  have n1 : ¬ Mem.S q M K L (w.heap.size + 1) := fun h => by have := hM0 _ h; omega
  exact ⟨hm, (f.cell (by omega) n0).trans h2, (f.cell h5 n1).trans h3, (f.frozen h5 n1).trans h4, Nat.lt_of_lt_of_le h5 f.size, h6.trans f (fun _ _ h => h)⟩
theorem Sc.set {w W : World} {q : Cfg} {M K : Nat} {L : Nat → Nat} {ψ : Nat → Int} {e : Int} (h : Sc w q M K L ψ e W) (hM0 : ∀ k, Mem.S q M K L k → k < w.heap.size) (e' : Int) : Sc w q M K L ψ e' (W.setCell ⟨w.heap.size + 1, 0, none⟩ (.int .i64 e')) := by
  obtain ⟨h1, h2, h3, h4, h5, h6⟩ := h
  refine ⟨h1.kept (S := fun k => k = w.heap.size + 1) ((Fr.refl (fun k => k = w.heap.size + 1) W).setCell (fun _ => rfl) _) (fun k hk e => by have := hM0 k hk; omega), (setCell_cell_other (by simp)).trans h2, World.cell?_setCell_same' _ _ _ (by rw [h3]; rfl), by simpa [World.frozen?_setCell] using h4, by simpa [World.setCell] using h5, h6.setCell (fun h => absurd h (by show ¬ w.heap.size + 1 < w.heap.size; omega)) _⟩
/-- A granule's words are 0. -/
def scr (φ : Nat → Int) (x : Nat) : Nat → Int := upd (upd (upd (upd φ (x * 2 * 2) 0) (x * 2 * 2 + 1) 0) ((x * 2 + 1) * 2) 0) ((x * 2 + 1) * 2 + 1) 0
theorem scr_at (φ : Nat → Int) (x i : Nat) : scr φ x i = if i / 4 = x then 0 else φ i := by
  unfold scr upd
  repeat' split
  all_goals first | rfl | omega
def zed (φ : Nat → Int) (i : Nat) : Nat → Int := upd (upd φ (i * 2) 0) (i * 2 + 1) 0
def SR (φ : Nat → Int) (x : Nat) (pre : List (Two (x : Int))) (ψ : Nat → Int) (e : Int) : Prop :=
  ψ = pre.foldl (fun f v => zed f v.1.toNat) φ ∧ e = if pre.isEmpty then 10 else 0
theorem SR.more {φ ψ : Nat → Int} {x : Nat} {pre : List (Two (x : Int))} {e : Int} (h : SR φ x pre ψ e) (v : Two (x : Int)) : SR φ x (pre ++ [v]) (zed ψ v.1.toNat) 0 := by
  obtain ⟨rfl, rfl⟩ := h
  exact ⟨by simp, by simp⟩
theorem SR.all {φ ψ : Nat → Int} {x : Nat} {e : Int} (h : SR φ x [t0 (x : Int), t1 (x : Int)] ψ e) : ψ = scr φ x ∧ e = 0 := by
  obtain ⟨rfl, rfl⟩ := h
  refine ⟨?_, rfl⟩
  have e0 : (t0 (x : Int)).1.toNat = x * 2 := by show ((x : Int) * 2).toNat = _; omega
  have e1 : (t1 (x : Int)).1.toNat = x * 2 + 1 := by show ((x : Int) * 2 + 1).toNat = _; omega
  simp only [List.foldl, e0, e1]
  rfl

set_option maxHeartbeats 4000000 in
theorem scrub_in {q : Cfg} {M K : Nat} {L : Nat → Nat} {φ : Nat → Int} (x : Nat) (hx : x * 2 < q.n) (w : World) (hT : Mem w q M K L φ) :
    Calls Try.prog 23 #[.pointer (some ⟨M, 0, none⟩), .int .i64 x] w fun r w' => r = .returned (.int .i64 0) ∧ Mem w' q M K L (scr φ x) ∧ Fr (Mem.S q M K L) w w' := by
  have HT := hide hT
  have HX := hide hx
  have HS := hide hT.S_lt
  have hMl := hT.hM
  have c0 := hT.c0
  have c1 := hT.c1
  have c2 := hT.c2
  have c3 := hT.c3
  have c4 := hT.c4
  have c5 := hT.c5
  have c6 := hT.c6
  have B4 : Below w.heap.size w ((((w.alloc (.cells #[.pointer (some ⟨M, 0, none⟩)] 28)).alloc (.cells #[.int .i64 10] 29)).alloc (.cells #[.int .i64 q.a, .int .i64 q.b, .int .i64 q.c, .int .i64 q.d, .int .i64 q.e, .int .i64 q.f, .int .i64 q.g] 23)).alloc (.cells #[.int .i64 x] 3)) := (((((Below.refl _ _).alloc (Nat.le_refl _) _).alloc (by simp) _).alloc (by simp; try omega) _).alloc (by simp; try omega) _)
  have hBox := hide ((Box.new ((w.alloc (.cells #[.pointer (some ⟨M, 0, none⟩)] 28)).alloc (.cells #[.int .i64 10] 29)) q.a q.b q.c q.d q.e q.f q.g 23).alloc (.cells #[.int .i64 x] 3))
  have hx4 := hide (show ((((w.alloc (.cells #[.pointer (some ⟨M, 0, none⟩)] 28)).alloc (.cells #[.int .i64 10] 29)).alloc (.cells #[.int .i64 q.a, .int .i64 q.b, .int .i64 q.c, .int .i64 q.d, .int .i64 q.e, .int .i64 q.f, .int .i64 q.g] 23)).alloc (.cells #[.int .i64 x] 3)).cell? ⟨w.heap.size + 1 + 1 + 1, 0, none⟩ = some (.int .i64 x) by simp [go_sem])
  have hS := hide (show Sc w q M K L φ 10 ((((w.alloc (.cells #[.pointer (some ⟨M, 0, none⟩)] 28)).alloc (.cells #[.int .i64 10] 29)).alloc (.cells #[.int .i64 q.a, .int .i64 q.b, .int .i64 q.c, .int .i64 q.d, .int .i64 q.e, .int .i64 q.f, .int .i64 q.g] 23)).alloc (.cells #[.int .i64 x] 3)) from ⟨hT.next B4, by simp [go_sem], by simp [go_sem], by simp [go_sem], by simp; try omega, Fr.of_below B4⟩)
  clear hT hx B4
  refine (callsIn_wide (n := 3)).1 ?_
  refine callsIn_of_wp_marks Try.func23 rfl trivial ?_ rfl
  simp only [Try.ntmps23, List.size_toArray, List.length_cons, List.length_nil, Nat.reduceAdd, Nat.reduceSub, Array.replicate_succ, Array.replicate_zero, List.push_toArray, List.append_toArray, List.nil_append, List.cons_append]
  gi_wp2_with (refine ⟨trivial, ?_⟩; gi_at_call 39; refine (callsIn_wide.2 (linesOf_any _ _ _ _ _ _ _ _ _)).mono ?_; rintro e w' ⟨rfl, rfl⟩)
  refine wpIn_rangeFunc_ownF rfl (by omega) (gf := 40) (lb := #[.pointer (some ⟨w.heap.size + 1 + 1 + 1, 0, none⟩), .pointer (some ⟨w.heap.size + 1 + 1, 0, none⟩)]) rfl trivial (enters_of Try.func40 (by kernel_rfl) rfl)
    (lines_stops q.a q.b q.c q.d q.e q.f q.g x q.ok (by omega) (by have := HX.out; have := q.hn; omega) (3 - 1) (by omega) (w.heap.size + 1 + 1) (w.heap.size + 1 + 1 + 1) (w.heap.size + 1 + 1 + 1 + 1) (by omega) (by omega) _ (by simp) (by simpa using hBox.out) (unhide hx4)) (fun _ _ => trivial) (fun _ _ _ _ _ _ _ _ => trivial) (Below.refl _ _) (fun _ => rfl)
    (fun pre W => ∃ ψ e, SR φ x pre ψ e ∧ Sc w q M K L ψ e W)
    (fun c pre W => False)
    (Sc.own _ (by simp; omega) (SR φ x))
    (fun c s A B row hs hg hr => hs)
    ⟨φ, 10, ⟨rfl, rfl⟩, unhide hS⟩
    (fun v => { tmps := #[.pointer (some ⟨M, 0, none⟩), .int .i64 x, .pointer (some ⟨w.heap.size, 0, none⟩), undef, .int .i64 0, .pointer (some ⟨w.heap.size + 1, 0, none⟩), .int .i64 v.1, .pointer (some ⟨M, 0, none⟩), .bool false, .pointer (some ⟨M, 0, none⟩), .pointer (some ⟨M, 0, none⟩), .pointer (some ⟨M, 0, none⟩), .agg #[.int .i64 q.a, .int .i64 q.b, .int .i64 q.c, .int .i64 q.d, .int .i64 q.e, .int .i64 q.f, .int .i64 q.g], .int .i64 x, .func (.func 40) #[] #[.pointer (some ⟨w.heap.size + 1 + 1 + 1, 0, none⟩), .pointer (some ⟨w.heap.size + 1 + 1, 0, none⟩)], .int .i64 v.1, undef, undef, undef, undef, undef], defers := [] }) ?assign ?body ?done ?stop
  case assign =>
    intro l v W K hK
    gi_wp2
    exact hK
  case body =>
    clear hS hBox hx4
    rintro l pre ⟨v, hv⟩ W ⟨ψ, e, hr, hA⟩ hlen
    have HA := hide hA
    obtain ⟨s1, s2, s3, s4, s5, s6⟩ := hA
    have T1 := hide s1
    clear s1
    have hr' := hide (hr.more ⟨v, hv⟩)
    have hz : v = (v.toNat : Int) := by omega
    have hn : v.toNat < q.n := by have := HX.out; have := q.hn; omega
    replace hz := hide hz
    replace hn := hide hn
    clear hr
    dsimp only
    gi_wp2_with fail
    refine ⟨trivial, ?_⟩
    refine (CallsIn.inRound l (callsIn_wide.2 (write_z _ v.toNat hz.out hn.out 0 0 _ T1.out))).mono ?_
    rintro r w1 ⟨rfl, hm, hf⟩
    have HA1 := hide (HA.out.write HS.out hm hf)
    have HO := hide (T1.out.others hf)
    obtain ⟨s1, s2, s3, s4, s5, s6⟩ := HA1.out
    clear s1 hm hf
    gi_wp2
    exact ⟨HO.out.trans (KeepsOthers.setCell _ _ _), trivial, _, _, hr'.out, HA1.out.set HS.out 0⟩
  case done =>
    clear hS hBox hx4
    rintro D ys W hD rfl ⟨ψ, e, hr, hA⟩ hK
    obtain ⟨rfl, rfl⟩ := hr.all
    clear hr
    have HA := hide hA
    obtain ⟨s1, s2, s3, s4, s5, s6⟩ := hA
    gi_wp2
    refine ⟨by simp, .inl ⟨_, _, rfl, run_takeDeferred hK, ?_⟩⟩
    obtain ⟨ψ', e', ⟨rfl, rfl⟩, z1, z2, z3, z4, z5, z6⟩ := (Sc.own (w := w) (q := q) (M := M) (K := K) (L := L) w.heap.size (Nat.le_refl _) (fun (_ : Unit) ψ' e' => ψ' = scr φ x ∧ e' = 0)) () W _ (some D) ⟨_, _, ⟨rfl, rfl⟩, HA.out⟩ (grownBy_putObj' W D (.deferred none)) (fun r e => by cases e; exact ⟨by simp at hD; omega, _, hK, rfl⟩)
    exact ⟨.int .i64 0, by simp [results, Try.results23, go_sem], rfl, z1, z6⟩
  case stop =>
    rintro D c pre W _ hp hs _
    exact hs.elim

set_option maxHeartbeats 4000000 in
theorem scrub_neg {q : Cfg} {M K : Nat} {L : Nat → Nat} {φ : Nat → Int} (x : Int) (hx : x < 0) (w : World) (hT : Mem w q M K L φ) :
    Calls Try.prog 23 #[.pointer (some ⟨M, 0, none⟩), .int .i64 x] w fun r w' => r = .returned (.int .i64 10) ∧ Mem w' q M K L φ ∧ Fr (Mem.S q M K L) w w' := by
  have HT := hide hT
  have HX := hide hx
  have HS := hide hT.S_lt
  have hMl := hT.hM
  have c0 := hT.c0
  have c1 := hT.c1
  have c2 := hT.c2
  have c3 := hT.c3
  have c4 := hT.c4
  have c5 := hT.c5
  have c6 := hT.c6
  have B4 : Below w.heap.size w ((((w.alloc (.cells #[.pointer (some ⟨M, 0, none⟩)] 28)).alloc (.cells #[.int .i64 10] 29)).alloc (.cells #[.int .i64 q.a, .int .i64 q.b, .int .i64 q.c, .int .i64 q.d, .int .i64 q.e, .int .i64 q.f, .int .i64 q.g] 23)).alloc (.cells #[.int .i64 x] 3)) := (((((Below.refl _ _).alloc (Nat.le_refl _) _).alloc (by simp) _).alloc (by simp; try omega) _).alloc (by simp; try omega) _)
  have hBox := hide ((Box.new ((w.alloc (.cells #[.pointer (some ⟨M, 0, none⟩)] 28)).alloc (.cells #[.int .i64 10] 29)) q.a q.b q.c q.d q.e q.f q.g 23).alloc (.cells #[.int .i64 x] 3))
  have hx4 := hide (show ((((w.alloc (.cells #[.pointer (some ⟨M, 0, none⟩)] 28)).alloc (.cells #[.int .i64 10] 29)).alloc (.cells #[.int .i64 q.a, .int .i64 q.b, .int .i64 q.c, .int .i64 q.d, .int .i64 q.e, .int .i64 q.f, .int .i64 q.g] 23)).alloc (.cells #[.int .i64 x] 3)).cell? ⟨w.heap.size + 1 + 1 + 1, 0, none⟩ = some (.int .i64 x) by simp [go_sem])
  have hS := hide (show Sc w q M K L φ 10 ((((w.alloc (.cells #[.pointer (some ⟨M, 0, none⟩)] 28)).alloc (.cells #[.int .i64 10] 29)).alloc (.cells #[.int .i64 q.a, .int .i64 q.b, .int .i64 q.c, .int .i64 q.d, .int .i64 q.e, .int .i64 q.f, .int .i64 q.g] 23)).alloc (.cells #[.int .i64 x] 3)) from ⟨hT.next B4, by simp [go_sem], by simp [go_sem], by simp [go_sem], by simp; try omega, Fr.of_below B4⟩)
  clear hT hx B4
  refine (callsIn_wide (n := 3)).1 ?_
  refine callsIn_of_wp_marks Try.func23 rfl trivial ?_ rfl
  simp only [Try.ntmps23, List.size_toArray, List.length_cons, List.length_nil, Nat.reduceAdd, Nat.reduceSub, Array.replicate_succ, Array.replicate_zero, List.push_toArray, List.append_toArray, List.nil_append, List.cons_append]
  gi_wp2_with (refine ⟨trivial, ?_⟩; gi_at_call 39; refine (callsIn_wide.2 (linesOf_any _ _ _ _ _ _ _ _ _)).mono ?_; rintro e w' ⟨rfl, rfl⟩)
  refine wpIn_rangeFunc_ownF rfl (by omega) (gf := 40) (lb := #[.pointer (some ⟨w.heap.size + 1 + 1 + 1, 0, none⟩), .pointer (some ⟨w.heap.size + 1 + 1, 0, none⟩)]) rfl trivial (enters_of Try.func40 (by kernel_rfl) rfl)
    (none_neg q.a q.b q.c q.d q.e q.f q.g x HX.out (3 - 1) (by omega) (w.heap.size + 1 + 1) (w.heap.size + 1 + 1 + 1) (w.heap.size + 1 + 1 + 1 + 1) (by omega) (by omega) _ (by simp) (by simpa using hBox.out) (unhide hx4)) (fun _ _ => trivial) (fun _ _ _ _ _ _ _ _ => trivial) (Below.refl _ _) (fun _ => rfl)
    (fun (pre : List (Two x)) W => ∃ ψ e, (ψ = φ ∧ e = (10 : Int)) ∧ Sc w q M K L ψ e W)
    (fun c pre W => False)
    (Sc.own _ (by simp; omega) fun (_ : List (Two x)) ψ e => ψ = φ ∧ e = 10)
    (fun c s A B row hs hg hr => hs)
    ⟨φ, 10, ⟨rfl, rfl⟩, unhide hS⟩
    (fun v => { tmps := #[.pointer (some ⟨M, 0, none⟩), .int .i64 x, .pointer (some ⟨w.heap.size, 0, none⟩), undef, .int .i64 0, .pointer (some ⟨w.heap.size + 1, 0, none⟩), .int .i64 v.1, .pointer (some ⟨M, 0, none⟩), .bool false, .pointer (some ⟨M, 0, none⟩), .pointer (some ⟨M, 0, none⟩), .pointer (some ⟨M, 0, none⟩), .agg #[.int .i64 q.a, .int .i64 q.b, .int .i64 q.c, .int .i64 q.d, .int .i64 q.e, .int .i64 q.f, .int .i64 q.g], .int .i64 x, .func (.func 40) #[] #[.pointer (some ⟨w.heap.size + 1 + 1 + 1, 0, none⟩), .pointer (some ⟨w.heap.size + 1 + 1, 0, none⟩)], .int .i64 v.1, undef, undef, undef, undef, undef], defers := [] }) ?assign ?body ?done ?stop
  case assign =>
    intro l v W K hK
    gi_wp2
    exact hK
  case body =>
    rintro l pre v W hI hlen
    omega
  case done =>
    clear hS hBox hx4
    rintro D ys W hD rfl ⟨ψ, e, hr, hA⟩ hK
    obtain ⟨e1, rfl⟩ := hr
    subst e1
    have HA := hide hA
    obtain ⟨s1, s2, s3, s4, s5, s6⟩ := hA
    gi_wp2
    refine ⟨by simp, .inl ⟨_, _, rfl, run_takeDeferred hK, ?_⟩⟩
    obtain ⟨ψ', e', ⟨rfl, rfl⟩, z1, z2, z3, z4, z5, z6⟩ := (Sc.own (w := w) (q := q) (M := M) (K := K) (L := L) w.heap.size (Nat.le_refl _) (fun (_ : Unit) ψ' e' => ψ' = ψ ∧ e' = 10)) () W _ (some D) ⟨_, _, ⟨rfl, rfl⟩, HA.out⟩ (grownBy_putObj' W D (.deferred none)) (fun r e => by cases e; exact ⟨by simp at hD; omega, _, hK, rfl⟩)
    exact ⟨.int .i64 10, by simp [results, Try.results23, go_sem], rfl, z1, z6⟩
  case stop =>
    rintro D c pre W _ hp hs _
    exact hs.elim

set_option maxHeartbeats 4000000 in
theorem scrub_much {q : Cfg} {M K : Nat} {L : Nat → Nat} {φ : Nat → Int} (x : Int) (hx : (q.n : Int) ≤ x * 2) (w : World) (hT : Mem w q M K L φ) :
    Calls Try.prog 23 #[.pointer (some ⟨M, 0, none⟩), .int .i64 x] w fun r w' => r = .returned (.int .i64 10) ∧ Mem w' q M K L φ ∧ Fr (Mem.S q M K L) w w' := by
  have HT := hide hT
  have HX := hide hx
  have HS := hide hT.S_lt
  have hMl := hT.hM
  have c0 := hT.c0
  have c1 := hT.c1
  have c2 := hT.c2
  have c3 := hT.c3
  have c4 := hT.c4
  have c5 := hT.c5
  have c6 := hT.c6
  have B4 : Below w.heap.size w ((((w.alloc (.cells #[.pointer (some ⟨M, 0, none⟩)] 28)).alloc (.cells #[.int .i64 10] 29)).alloc (.cells #[.int .i64 q.a, .int .i64 q.b, .int .i64 q.c, .int .i64 q.d, .int .i64 q.e, .int .i64 q.f, .int .i64 q.g] 23)).alloc (.cells #[.int .i64 x] 3)) := (((((Below.refl _ _).alloc (Nat.le_refl _) _).alloc (by simp) _).alloc (by simp; try omega) _).alloc (by simp; try omega) _)
  have hBox := hide ((Box.new ((w.alloc (.cells #[.pointer (some ⟨M, 0, none⟩)] 28)).alloc (.cells #[.int .i64 10] 29)) q.a q.b q.c q.d q.e q.f q.g 23).alloc (.cells #[.int .i64 x] 3))
  have hx4 := hide (show ((((w.alloc (.cells #[.pointer (some ⟨M, 0, none⟩)] 28)).alloc (.cells #[.int .i64 10] 29)).alloc (.cells #[.int .i64 q.a, .int .i64 q.b, .int .i64 q.c, .int .i64 q.d, .int .i64 q.e, .int .i64 q.f, .int .i64 q.g] 23)).alloc (.cells #[.int .i64 x] 3)).cell? ⟨w.heap.size + 1 + 1 + 1, 0, none⟩ = some (.int .i64 x) by simp [go_sem])
  have hS := hide (show Sc w q M K L φ 10 ((((w.alloc (.cells #[.pointer (some ⟨M, 0, none⟩)] 28)).alloc (.cells #[.int .i64 10] 29)).alloc (.cells #[.int .i64 q.a, .int .i64 q.b, .int .i64 q.c, .int .i64 q.d, .int .i64 q.e, .int .i64 q.f, .int .i64 q.g] 23)).alloc (.cells #[.int .i64 x] 3)) from ⟨hT.next B4, by simp [go_sem], by simp [go_sem], by simp [go_sem], by simp; try omega, Fr.of_below B4⟩)
  clear hT hx B4
  refine (callsIn_wide (n := 3)).1 ?_
  refine callsIn_of_wp_marks Try.func23 rfl trivial ?_ rfl
  simp only [Try.ntmps23, List.size_toArray, List.length_cons, List.length_nil, Nat.reduceAdd, Nat.reduceSub, Array.replicate_succ, Array.replicate_zero, List.push_toArray, List.append_toArray, List.nil_append, List.cons_append]
  gi_wp2_with (refine ⟨trivial, ?_⟩; gi_at_call 39; refine (callsIn_wide.2 (linesOf_any _ _ _ _ _ _ _ _ _)).mono ?_; rintro e w' ⟨rfl, rfl⟩)
  refine wpIn_rangeFunc_ownF rfl (by omega) (gf := 40) (lb := #[.pointer (some ⟨w.heap.size + 1 + 1 + 1, 0, none⟩), .pointer (some ⟨w.heap.size + 1 + 1, 0, none⟩)]) rfl trivial (enters_of Try.func40 (by kernel_rfl) rfl)
    (none_much q.a q.b q.c q.d q.e q.f q.g x q.ok (by have := HX.out; have := q.hn; omega) (by have := HX.out; have := q.hn; omega) (3 - 1) (by omega) (w.heap.size + 1 + 1) (w.heap.size + 1 + 1 + 1) (w.heap.size + 1 + 1 + 1 + 1) (by omega) (by omega) _ (by simp) (by simpa using hBox.out) (unhide hx4)) (fun _ _ => trivial) (fun _ _ _ _ _ _ _ _ => trivial) (Below.refl _ _) (fun _ => rfl)
    (fun (pre : List (Two x)) W => ∃ ψ e, (ψ = φ ∧ e = (10 : Int)) ∧ Sc w q M K L ψ e W)
    (fun c pre W => False)
    (Sc.own _ (by simp; omega) fun (_ : List (Two x)) ψ e => ψ = φ ∧ e = 10)
    (fun c s A B row hs hg hr => hs)
    ⟨φ, 10, ⟨rfl, rfl⟩, unhide hS⟩
    (fun v => { tmps := #[.pointer (some ⟨M, 0, none⟩), .int .i64 x, .pointer (some ⟨w.heap.size, 0, none⟩), undef, .int .i64 0, .pointer (some ⟨w.heap.size + 1, 0, none⟩), .int .i64 v.1, .pointer (some ⟨M, 0, none⟩), .bool false, .pointer (some ⟨M, 0, none⟩), .pointer (some ⟨M, 0, none⟩), .pointer (some ⟨M, 0, none⟩), .agg #[.int .i64 q.a, .int .i64 q.b, .int .i64 q.c, .int .i64 q.d, .int .i64 q.e, .int .i64 q.f, .int .i64 q.g], .int .i64 x, .func (.func 40) #[] #[.pointer (some ⟨w.heap.size + 1 + 1 + 1, 0, none⟩), .pointer (some ⟨w.heap.size + 1 + 1, 0, none⟩)], .int .i64 v.1, undef, undef, undef, undef, undef], defers := [] }) ?assign ?body ?done ?stop
  case assign =>
    intro l v W K hK
    gi_wp2
    exact hK
  case body =>
    rintro l pre v W hI hlen
    omega
  case done =>
    clear hS hBox hx4
    rintro D ys W hD rfl ⟨ψ, e, hr, hA⟩ hK
    obtain ⟨e1, rfl⟩ := hr
    subst e1
    have HA := hide hA
    obtain ⟨s1, s2, s3, s4, s5, s6⟩ := hA
    gi_wp2
    refine ⟨by simp, .inl ⟨_, _, rfl, run_takeDeferred hK, ?_⟩⟩
    obtain ⟨ψ', e', ⟨rfl, rfl⟩, z1, z2, z3, z4, z5, z6⟩ := (Sc.own (w := w) (q := q) (M := M) (K := K) (L := L) w.heap.size (Nat.le_refl _) (fun (_ : Unit) ψ' e' => ψ' = ψ ∧ e' = 10)) () W _ (some D) ⟨_, _, ⟨rfl, rfl⟩, HA.out⟩ (grownBy_putObj' W D (.deferred none)) (fun r e => by cases e; exact ⟨by simp at hD; omega, _, hK, rfl⟩)
    exact ⟨.int .i64 10, by simp [results, Try.results23, go_sem], rfl, z1, z6⟩
  case stop =>
    rintro D c pre W _ hp hs _
    exact hs.elim
end Go.Proofs.Ytofgpcdhgkeccaa
