/- PlaceLines, walked: the law. -/
import Derived.Test.YtgdbjkkhmamdmaaJ
import Derived.RangeFuncNested
import Derived.RangeFuncBound
import Derived.RangeFuncCalls
import Derived.RangeFuncLeaves
import Derived.Shelf.Abstract
import Derived.Shelf.RegionOpen
import Derived.WalkKit
import Derived.OwnWalkIn
import Derived.TacticsInMore
import Derived.LoopNIn
import Derived.LoopIn
import Derived.Outline
import Derived.IntWalk
import Derived.Deep.RegionHeld3
import Derived.BigQuiet
import Derived.Deep.QuietTactic
namespace Go.Proofs.Ytgdbjkkhmamdmaa
open Go.RowKit Go.Shelf
attribute [local go_sem] Oper.semAt_some
set_option linter.unusedVariables false
set_option maxRecDepth 100000

set_option maxHeartbeats 4000000 in
theorem lines_law_yes (a b c d e f g x : Int) (h : Ok a b c d e f g) (hx : 0 ≤ x) (hx2 : x < b) (w : World) : Calls Try.prog 5 #[.agg #[.int .i64 a, .int .i64 b, .int .i64 c, .int .i64 d, .int .i64 e, .int .i64 f, .int .i64 g], .int .i64 x] w fun r w' => r = .returned (.bool true) ∧ Below w.heap.size w w' := by
  have h1 : 1 ≤ b := h.2.1.1
  have h2 : b ≤ 16 := h.2.1.2
  have H := hide h
  clear h
  have hnil := func_nil
  have hBox : Box ((((w.alloc (.cells #[.int .i64 a, .int .i64 b, .int .i64 c, .int .i64 d, .int .i64 e, .int .i64 f, .int .i64 g] 23)).alloc (.cells #[.int .i64 x] 3)).alloc (.cells #[.bool false] 4)).alloc (.cells #[.int .i64 a, .int .i64 b, .int .i64 c, .int .i64 d, .int .i64 e, .int .i64 f, .int .i64 g] 23)) (w.heap.size + 1 + 1 + 1) a b c d e f g := by simpa using Box.new (((w.alloc (.cells #[.int .i64 a, .int .i64 b, .int .i64 c, .int .i64 d, .int .i64 e, .int .i64 f, .int .i64 g] 23)).alloc (.cells #[.int .i64 x] 3)).alloc (.cells #[.bool false] 4)) a b c d e f g 23
  have hBox := hide ((hBox.alloc (.cells #[.int .i64 x] 3)).alloc (.cells #[.int .i64 0] 3))
  have hx4 : ((((((((w.alloc (.cells #[.int .i64 a, .int .i64 b, .int .i64 c, .int .i64 d, .int .i64 e, .int .i64 f, .int .i64 g] 23)).alloc (.cells #[.int .i64 x] 3)).alloc (.cells #[.bool false] 4)).alloc (.cells #[.int .i64 a, .int .i64 b, .int .i64 c, .int .i64 d, .int .i64 e, .int .i64 f, .int .i64 g] 23)).alloc (.cells #[.int .i64 x] 3)).alloc (.cells #[.int .i64 0] 3)))).cell? ⟨w.heap.size + 1 + 1 + 1 + 1, 0, none⟩ = some (.int .i64 x) := by simp [go_sem]
  have hx4 := hide hx4
  have hS := hide (At.start w a b c d e f g x)
  refine (callsIn_wide (n := 3)).1 ?_
  refine callsIn_of_wp_marks Try.func5 rfl trivial ?_ rfl
  simp only [Try.ntmps5, List.size_toArray, List.length_cons, List.length_nil, Nat.reduceAdd, Nat.reduceSub, Array.replicate_succ, Array.replicate_zero, List.push_toArray, List.append_toArray, List.nil_append, List.cons_append]
  gi_wp2_with (refine ⟨trivial, ?_⟩; gi_at_call 18; refine (callsIn_wide.2 (linesOf_any _ _ _ _ _ _ _ _ _)).mono ?_; rintro e w' ⟨rfl, rfl⟩)
  refine wpIn_rangeFunc_ownF rfl (by omega) (gf := 21) (lb := #[.pointer (some ⟨w.heap.size + 1 + 1 + 1 + 1, 0, none⟩), .pointer (some ⟨w.heap.size + 1 + 1 + 1, 0, none⟩)]) rfl trivial (enters_of Try.func21 (by kernel_rfl) rfl)
    (lines_stops a b c d e f g x H.out hx hx2 (3 - 1) (by omega) (w.heap.size + 1 + 1 + 1) (w.heap.size + 1 + 1 + 1 + 1) (w.heap.size + 1 + 1 + 1 + 1 + 1) (by omega) (by omega) _ (by simp) (unhide hBox) (unhide hx4)) belowK_t (belowK_b (by simp)) (Below.refl _ _) (fun _ => rfl)
    (fun pre W => ∃ m, Rounds x pre m ∧ At w a b c d e f g x m W)
    (fun c pre W => pre ≠ [] ∧ pre ≠ [t0 x] ∧ pre ≠ [t0 x, t1 x])
    (At.own _ (by simp; omega) (Rounds x))
    (fun c s A B row hs hg hr => hs)
    ⟨0, .inl ⟨rfl, rfl⟩, unhide hS⟩
    (fun v => { tmps := #[.agg #[.int .i64 a, .int .i64 b, .int .i64 c, .int .i64 d, .int .i64 e, .int .i64 f, .int .i64 g], .int .i64 x, .pointer (some ⟨w.heap.size, 0, none⟩), .pointer (some ⟨w.heap.size + 1, 0, none⟩), .pointer (some ⟨w.heap.size + 1 + 1, 0, none⟩), .func (.func 21) #[] #[.pointer (some ⟨w.heap.size + 1 + 1 + 1 + 1, 0, none⟩), .pointer (some ⟨w.heap.size + 1 + 1 + 1, 0, none⟩)], .pointer (some ⟨w.heap.size + 1 + 1 + 1 + 1 + 1, 0, none⟩), .int .i64 v.1, undef, undef, undef, .agg #[.int .i64 a, .int .i64 b, .int .i64 c, .int .i64 d, .int .i64 e, .int .i64 f, .int .i64 g], .int .i64 x, .func (.func 21) #[] #[.pointer (some ⟨w.heap.size + 1 + 1 + 1 + 1, 0, none⟩), .pointer (some ⟨w.heap.size + 1 + 1 + 1, 0, none⟩)], .func (.func 21) #[] #[.pointer (some ⟨w.heap.size + 1 + 1 + 1 + 1, 0, none⟩), .pointer (some ⟨w.heap.size + 1 + 1 + 1, 0, none⟩)], .bool false, .func (.func 21) #[] #[.pointer (some ⟨w.heap.size + 1 + 1 + 1 + 1, 0, none⟩), .pointer (some ⟨w.heap.size + 1 + 1 + 1, 0, none⟩)], .int .i64 v.1, undef, undef, undef, undef, undef, undef, undef, undef, undef, undef, undef, undef, undef, undef, undef, undef, undef, undef, undef, undef, undef, undef, undef, undef, undef, undef, undef, undef, undef, undef, undef, undef, undef, undef, undef, undef, undef, undef, undef, undef, undef], defers := [] }) ?assign ?body ?done ?stop
  case assign =>
    intro l v W K hK
    gi_wp2
    exact hK
  case body =>
    clear hS hBox hx4
    rintro l pre ⟨v, hv⟩ W ⟨m, hr, hA⟩ hlen
    have hA' := hide hA
    obtain ⟨c0, c1, c2, c3, c4, c5, c6, cx, cr, fr, cn, fn, lt, kb⟩ := unhide hA'
    have lt0 := lt
    rcases hr with ⟨rfl, rfl⟩ | ⟨rfl, rfl⟩ | ⟨rfl, rfl⟩
    · rcases hv with rfl | rfl
      · have e1 : (x * 2) / 2 = x := by omega
        have e1 : ((x * 2) / 2 != x) = false := by rw [e1]; simp
        have e2 : ((x * 2) != 2 * x) = false := by simp; omega
        gi_wp2_with fail
        refine ⟨trivial, ?_⟩
        refine (CallsIn.inRound l (callsIn_wide.2 (granule_yes _ _ _ _ _ _ _ _ H.out (by omega) (by omega) _))).mono ?_
        rintro r w1 ⟨rfl, hb⟩
        have hA1 := hide (hA.next hb)
        obtain ⟨c0, c1, c2, c3, c4, c5, c6, cx, cr, fr, cn, fn, lt, kb⟩ := unhide hA1
        gi_wp2
        exact ⟨(keepsOthers_of_below hb).trans (KeepsOthers.setCell _ _ _), (hb.mono (Nat.le_of_lt lt0)).setCell (p := ⟨w.heap.size + 1 + 1 + 1 + 1 + 1, 0, none⟩) (Nat.le_refl _) _, _, .inr (.inl ⟨rfl, rfl⟩), (unhide hA1).set _⟩

      · have e1 : (x * 2 + 1) / 2 = x := by omega
        have e1 : ((x * 2 + 1) / 2 != x) = false := by rw [e1]; simp
        have e2 : ((x * 2 + 1) != 2 * x) = true := by simp; omega
        gi_wp2_with fail
        refine ⟨trivial, ?_⟩
        refine (CallsIn.inRound l (callsIn_wide.2 (granule_yes _ _ _ _ _ _ _ _ H.out (by omega) (by omega) _))).mono ?_
        rintro r w1 ⟨rfl, hb⟩
        have hA1 := hide (hA.next hb)
        obtain ⟨c0, c1, c2, c3, c4, c5, c6, cx, cr, fr, cn, fn, lt, kb⟩ := unhide hA1
        gi_wp2
        exact ⟨(keepsOthers_of_below hb).trans (KeepsOthers.setCell _ _ _), by simp, by simp [t0]; omega, by simp⟩

    · rcases hv with rfl | rfl
      · have e1 : (x * 2) / 2 = x := by omega
        have e1 : ((x * 2) / 2 != x) = false := by rw [e1]; simp
        have e2 : ((x * 2) != 2 * x + 1) = true := by simp; omega
        gi_wp2_with fail
        refine ⟨trivial, ?_⟩
        refine (CallsIn.inRound l (callsIn_wide.2 (granule_yes _ _ _ _ _ _ _ _ H.out (by omega) (by omega) _))).mono ?_
        rintro r w1 ⟨rfl, hb⟩
        have hA1 := hide (hA.next hb)
        obtain ⟨c0, c1, c2, c3, c4, c5, c6, cx, cr, fr, cn, fn, lt, kb⟩ := unhide hA1
        gi_wp2
        exact ⟨(keepsOthers_of_below hb).trans (KeepsOthers.setCell _ _ _), by simp, by simp, by simp [t0, t1]; omega⟩

      · have e1 : (x * 2 + 1) / 2 = x := by omega
        have e1 : ((x * 2 + 1) / 2 != x) = false := by rw [e1]; simp
        have e2 : ((x * 2 + 1) != 2 * x + 1) = false := by simp; omega
        gi_wp2_with fail
        refine ⟨trivial, ?_⟩
        refine (CallsIn.inRound l (callsIn_wide.2 (granule_yes _ _ _ _ _ _ _ _ H.out (by omega) (by omega) _))).mono ?_
        rintro r w1 ⟨rfl, hb⟩
        have hA1 := hide (hA.next hb)
        obtain ⟨c0, c1, c2, c3, c4, c5, c6, cx, cr, fr, cn, fn, lt, kb⟩ := unhide hA1
        gi_wp2
        exact ⟨(keepsOthers_of_below hb).trans (KeepsOthers.setCell _ _ _), (hb.mono (Nat.le_of_lt lt0)).setCell (p := ⟨w.heap.size + 1 + 1 + 1 + 1 + 1, 0, none⟩) (Nat.le_refl _) _, _, .inr (.inr ⟨rfl, rfl⟩), (unhide hA1).set _⟩

    · simp at hlen

  case done =>
    clear hS hBox hx4
    rintro D ys W hD rfl ⟨m, hr, hA⟩ hK
    obtain rfl : m = 2 := by simpa [Rounds] using hr
    clear hr
    have hA := hide hA
    obtain ⟨c0, c1, c2, c3, c4, c5, c6, cx, cr, fr, cn, fn, lt, kb⟩ := unhide hA
    gi_wp2_with fail
    refine ⟨trivial, ?_⟩
    refine (callsIn_wide.2 (may_yes _ _ _ _ _ _ _ H.out _)).mono ?_
    rintro r w1 ⟨rfl, hb⟩
    have hA := hide ((unhide hA).next hb)
    have hK := (hb.block D (Array.getElem?_eq_some_iff.1 hK).1).trans hK
    clear hb
    obtain ⟨c0, c1, c2, c3, c4, c5, c6, cx, cr, fr, cn, fn, lt, kb⟩ := unhide hA
    gi_wp2_with fail
    refine ⟨trivial, ?_⟩
    refine (callsIn_wide.2 (awake_ok _)).mono ?_
    rintro r w2 ⟨rfl, hb⟩
    have hA := hide ((unhide hA).next hb)
    have hK := (hb.block D (Array.getElem?_eq_some_iff.1 hK).1).trans hK
    clear hb
    obtain ⟨c0, c1, c2, c3, c4, c5, c6, cx, cr, fr, cn, fn, lt, kb⟩ := unhide hA
    gi_wp2
    have hK' := (KeepsOthers.setCell w2 ⟨w.heap.size + 1 + 1, 0, none⟩ (.bool true)).same D _ hK rfl
    refine ⟨by simp, .inl ⟨_, _, rfl, run_takeDeferred hK', ?_⟩⟩
    have hc5 := cell_kept (World.cell?_setCell_same' w2 ⟨w.heap.size + 1 + 1, 0, none⟩ (.bool true) (by rw [cr]; rfl)) (grownBy_putObj' _ D (.deferred none)) (fun r e => by cases e; exact ⟨_, hK', rfl⟩)
    refine ⟨.bool true, ?_, rfl, (kb.setCell (p := ⟨w.heap.size + 1 + 1, 0, none⟩) (by show _ ≤ w.heap.size + 1 + 1; omega) _).trans (belowK_b (w := w) (Nat.le_refl _) _ D _ _ (by simp at hD; omega) hK' rfl rfl)⟩
    simp [results, Try.f5, go_sem, hc5]

  case stop =>
    rintro D c pre W _ hp hs _
    rcases hp with rfl | rfl
    · exact absurd rfl hs.2.1
    · exact absurd rfl hs.2.2


set_option maxHeartbeats 4000000 in
theorem lines_law_neg (a b c d e f g x : Int) (h : Ok a b c d e f g) (hx : x < 0) (w : World) : Calls Try.prog 5 #[.agg #[.int .i64 a, .int .i64 b, .int .i64 c, .int .i64 d, .int .i64 e, .int .i64 f, .int .i64 g], .int .i64 x] w fun r w' => r = .returned (.bool true) ∧ Below w.heap.size w w' := by
  have h1 : 1 ≤ b := h.2.1.1
  have h2 : b ≤ 16 := h.2.1.2
  have H := hide h
  clear h
  have hnil := func_nil
  have hBox : Box ((((w.alloc (.cells #[.int .i64 a, .int .i64 b, .int .i64 c, .int .i64 d, .int .i64 e, .int .i64 f, .int .i64 g] 23)).alloc (.cells #[.int .i64 x] 3)).alloc (.cells #[.bool false] 4)).alloc (.cells #[.int .i64 a, .int .i64 b, .int .i64 c, .int .i64 d, .int .i64 e, .int .i64 f, .int .i64 g] 23)) (w.heap.size + 1 + 1 + 1) a b c d e f g := by simpa using Box.new (((w.alloc (.cells #[.int .i64 a, .int .i64 b, .int .i64 c, .int .i64 d, .int .i64 e, .int .i64 f, .int .i64 g] 23)).alloc (.cells #[.int .i64 x] 3)).alloc (.cells #[.bool false] 4)) a b c d e f g 23
  have hBox := hide ((hBox.alloc (.cells #[.int .i64 x] 3)).alloc (.cells #[.int .i64 0] 3))
  have hx4 : ((((((((w.alloc (.cells #[.int .i64 a, .int .i64 b, .int .i64 c, .int .i64 d, .int .i64 e, .int .i64 f, .int .i64 g] 23)).alloc (.cells #[.int .i64 x] 3)).alloc (.cells #[.bool false] 4)).alloc (.cells #[.int .i64 a, .int .i64 b, .int .i64 c, .int .i64 d, .int .i64 e, .int .i64 f, .int .i64 g] 23)).alloc (.cells #[.int .i64 x] 3)).alloc (.cells #[.int .i64 0] 3)))).cell? ⟨w.heap.size + 1 + 1 + 1 + 1, 0, none⟩ = some (.int .i64 x) := by simp [go_sem]
  have hx4 := hide hx4
  have hS := hide (At.start w a b c d e f g x)
  refine (callsIn_wide (n := 3)).1 ?_
  refine callsIn_of_wp_marks Try.func5 rfl trivial ?_ rfl
  simp only [Try.ntmps5, List.size_toArray, List.length_cons, List.length_nil, Nat.reduceAdd, Nat.reduceSub, Array.replicate_succ, Array.replicate_zero, List.push_toArray, List.append_toArray, List.nil_append, List.cons_append]
  gi_wp2_with (refine ⟨trivial, ?_⟩; gi_at_call 18; refine (callsIn_wide.2 (linesOf_any _ _ _ _ _ _ _ _ _)).mono ?_; rintro e w' ⟨rfl, rfl⟩)
  refine wpIn_rangeFunc_ownF rfl (by omega) (gf := 21) (lb := #[.pointer (some ⟨w.heap.size + 1 + 1 + 1 + 1, 0, none⟩), .pointer (some ⟨w.heap.size + 1 + 1 + 1, 0, none⟩)]) rfl trivial (enters_of Try.func21 (by kernel_rfl) rfl)
    (none_neg a b c d e f g x hx (3 - 1) (by omega) (w.heap.size + 1 + 1 + 1) (w.heap.size + 1 + 1 + 1 + 1) (w.heap.size + 1 + 1 + 1 + 1 + 1) (by omega) (by omega) _ (by simp) (unhide hBox) (unhide hx4)) belowK_t (belowK_b (by simp)) (Below.refl _ _) (fun _ => rfl)
    (fun pre W => ∃ m, Rounds x pre m ∧ At w a b c d e f g x m W)
    (fun c pre W => pre ≠ [] ∧ pre ≠ [t0 x] ∧ pre ≠ [t0 x, t1 x])
    (At.own _ (by simp; omega) (Rounds x))
    (fun c s A B row hs hg hr => hs)
    ⟨0, .inl ⟨rfl, rfl⟩, unhide hS⟩
    (fun v => { tmps := #[.agg #[.int .i64 a, .int .i64 b, .int .i64 c, .int .i64 d, .int .i64 e, .int .i64 f, .int .i64 g], .int .i64 x, .pointer (some ⟨w.heap.size, 0, none⟩), .pointer (some ⟨w.heap.size + 1, 0, none⟩), .pointer (some ⟨w.heap.size + 1 + 1, 0, none⟩), .func (.func 21) #[] #[.pointer (some ⟨w.heap.size + 1 + 1 + 1 + 1, 0, none⟩), .pointer (some ⟨w.heap.size + 1 + 1 + 1, 0, none⟩)], .pointer (some ⟨w.heap.size + 1 + 1 + 1 + 1 + 1, 0, none⟩), .int .i64 v.1, undef, undef, undef, .agg #[.int .i64 a, .int .i64 b, .int .i64 c, .int .i64 d, .int .i64 e, .int .i64 f, .int .i64 g], .int .i64 x, .func (.func 21) #[] #[.pointer (some ⟨w.heap.size + 1 + 1 + 1 + 1, 0, none⟩), .pointer (some ⟨w.heap.size + 1 + 1 + 1, 0, none⟩)], .func (.func 21) #[] #[.pointer (some ⟨w.heap.size + 1 + 1 + 1 + 1, 0, none⟩), .pointer (some ⟨w.heap.size + 1 + 1 + 1, 0, none⟩)], .bool false, .func (.func 21) #[] #[.pointer (some ⟨w.heap.size + 1 + 1 + 1 + 1, 0, none⟩), .pointer (some ⟨w.heap.size + 1 + 1 + 1, 0, none⟩)], .int .i64 v.1, undef, undef, undef, undef, undef, undef, undef, undef, undef, undef, undef, undef, undef, undef, undef, undef, undef, undef, undef, undef, undef, undef, undef, undef, undef, undef, undef, undef, undef, undef, undef, undef, undef, undef, undef, undef, undef, undef, undef, undef, undef], defers := [] }) ?assign ?body ?done ?stop
  case assign =>
    intro l v W K hK
    gi_wp2
    exact hK
  case body =>
    clear hS hBox hx4
    rintro l pre ⟨v, hv⟩ W ⟨m, hr, hA⟩ hlen
    simp at hlen

  case done =>
    clear hS hBox hx4
    rintro D ys W hD rfl ⟨m, hr, hA⟩ hK
    obtain rfl : m = 0 := by simpa [Rounds] using hr
    clear hr
    have hA := hide hA
    obtain ⟨c0, c1, c2, c3, c4, c5, c6, cx, cr, fr, cn, fn, lt, kb⟩ := unhide hA
    gi_wp2_with fail
    refine ⟨trivial, ?_⟩
    refine (callsIn_wide.2 (may_yes _ _ _ _ _ _ _ H.out _)).mono ?_
    rintro r w1 ⟨rfl, hb⟩
    have hA := hide ((unhide hA).next hb)
    have hK := (hb.block D (Array.getElem?_eq_some_iff.1 hK).1).trans hK
    clear hb
    obtain ⟨c0, c1, c2, c3, c4, c5, c6, cx, cr, fr, cn, fn, lt, kb⟩ := unhide hA
    gi_wp2_with fail
    refine ⟨trivial, ?_⟩
    refine (callsIn_wide.2 (awake_ok _)).mono ?_
    rintro r w2 ⟨rfl, hb⟩
    have hA := hide ((unhide hA).next hb)
    have hK := (hb.block D (Array.getElem?_eq_some_iff.1 hK).1).trans hK
    clear hb
    obtain ⟨c0, c1, c2, c3, c4, c5, c6, cx, cr, fr, cn, fn, lt, kb⟩ := unhide hA
    gi_wp2
    have hK' := (KeepsOthers.setCell w2 ⟨w.heap.size + 1 + 1, 0, none⟩ (.bool true)).same D _ hK rfl
    refine ⟨by simp, .inl ⟨_, _, rfl, run_takeDeferred hK', ?_⟩⟩
    have hc5 := cell_kept (World.cell?_setCell_same' w2 ⟨w.heap.size + 1 + 1, 0, none⟩ (.bool true) (by rw [cr]; rfl)) (grownBy_putObj' _ D (.deferred none)) (fun r e => by cases e; exact ⟨_, hK', rfl⟩)
    refine ⟨.bool true, ?_, rfl, (kb.setCell (p := ⟨w.heap.size + 1 + 1, 0, none⟩) (by show _ ≤ w.heap.size + 1 + 1; omega) _).trans (belowK_b (w := w) (Nat.le_refl _) _ D _ _ (by simp at hD; omega) hK' rfl rfl)⟩
    simp [results, Try.f5, go_sem, hc5]

  case stop =>
    rintro D c pre W _ hp hs _
    exact hp.elim


set_option maxHeartbeats 4000000 in
theorem lines_law_negbad (a b c d e f g x : Int) (h : ¬ Ok a b c d e f g) (hx : x < 0) (w : World) : Calls Try.prog 5 #[.agg #[.int .i64 a, .int .i64 b, .int .i64 c, .int .i64 d, .int .i64 e, .int .i64 f, .int .i64 g], .int .i64 x] w fun r w' => r = .returned (.bool true) ∧ Below w.heap.size w w' := by
  have H := hide h
  clear h
  have hnil := func_nil
  have hBox : Box ((((w.alloc (.cells #[.int .i64 a, .int .i64 b, .int .i64 c, .int .i64 d, .int .i64 e, .int .i64 f, .int .i64 g] 23)).alloc (.cells #[.int .i64 x] 3)).alloc (.cells #[.bool false] 4)).alloc (.cells #[.int .i64 a, .int .i64 b, .int .i64 c, .int .i64 d, .int .i64 e, .int .i64 f, .int .i64 g] 23)) (w.heap.size + 1 + 1 + 1) a b c d e f g := by simpa using Box.new (((w.alloc (.cells #[.int .i64 a, .int .i64 b, .int .i64 c, .int .i64 d, .int .i64 e, .int .i64 f, .int .i64 g] 23)).alloc (.cells #[.int .i64 x] 3)).alloc (.cells #[.bool false] 4)) a b c d e f g 23
  have hBox := hide ((hBox.alloc (.cells #[.int .i64 x] 3)).alloc (.cells #[.int .i64 0] 3))
  have hx4 : ((((((((w.alloc (.cells #[.int .i64 a, .int .i64 b, .int .i64 c, .int .i64 d, .int .i64 e, .int .i64 f, .int .i64 g] 23)).alloc (.cells #[.int .i64 x] 3)).alloc (.cells #[.bool false] 4)).alloc (.cells #[.int .i64 a, .int .i64 b, .int .i64 c, .int .i64 d, .int .i64 e, .int .i64 f, .int .i64 g] 23)).alloc (.cells #[.int .i64 x] 3)).alloc (.cells #[.int .i64 0] 3)))).cell? ⟨w.heap.size + 1 + 1 + 1 + 1, 0, none⟩ = some (.int .i64 x) := by simp [go_sem]
  have hx4 := hide hx4
  have hS := hide (At.start w a b c d e f g x)
  refine (callsIn_wide (n := 3)).1 ?_
  refine callsIn_of_wp_marks Try.func5 rfl trivial ?_ rfl
  simp only [Try.ntmps5, List.size_toArray, List.length_cons, List.length_nil, Nat.reduceAdd, Nat.reduceSub, Array.replicate_succ, Array.replicate_zero, List.push_toArray, List.append_toArray, List.nil_append, List.cons_append]
  gi_wp2_with (refine ⟨trivial, ?_⟩; gi_at_call 18; refine (callsIn_wide.2 (linesOf_any _ _ _ _ _ _ _ _ _)).mono ?_; rintro e w' ⟨rfl, rfl⟩)
  refine wpIn_rangeFunc_ownF rfl (by omega) (gf := 21) (lb := #[.pointer (some ⟨w.heap.size + 1 + 1 + 1 + 1, 0, none⟩), .pointer (some ⟨w.heap.size + 1 + 1 + 1, 0, none⟩)]) rfl trivial (enters_of Try.func21 (by kernel_rfl) rfl)
    (none_neg a b c d e f g x hx (3 - 1) (by omega) (w.heap.size + 1 + 1 + 1) (w.heap.size + 1 + 1 + 1 + 1) (w.heap.size + 1 + 1 + 1 + 1 + 1) (by omega) (by omega) _ (by simp) (unhide hBox) (unhide hx4)) belowK_t (belowK_b (by simp)) (Below.refl _ _) (fun _ => rfl)
    (fun pre W => ∃ m, Rounds x pre m ∧ At w a b c d e f g x m W)
    (fun c pre W => pre ≠ [] ∧ pre ≠ [t0 x] ∧ pre ≠ [t0 x, t1 x])
    (At.own _ (by simp; omega) (Rounds x))
    (fun c s A B row hs hg hr => hs)
    ⟨0, .inl ⟨rfl, rfl⟩, unhide hS⟩
    (fun v => { tmps := #[.agg #[.int .i64 a, .int .i64 b, .int .i64 c, .int .i64 d, .int .i64 e, .int .i64 f, .int .i64 g], .int .i64 x, .pointer (some ⟨w.heap.size, 0, none⟩), .pointer (some ⟨w.heap.size + 1, 0, none⟩), .pointer (some ⟨w.heap.size + 1 + 1, 0, none⟩), .func (.func 21) #[] #[.pointer (some ⟨w.heap.size + 1 + 1 + 1 + 1, 0, none⟩), .pointer (some ⟨w.heap.size + 1 + 1 + 1, 0, none⟩)], .pointer (some ⟨w.heap.size + 1 + 1 + 1 + 1 + 1, 0, none⟩), .int .i64 v.1, undef, undef, undef, .agg #[.int .i64 a, .int .i64 b, .int .i64 c, .int .i64 d, .int .i64 e, .int .i64 f, .int .i64 g], .int .i64 x, .func (.func 21) #[] #[.pointer (some ⟨w.heap.size + 1 + 1 + 1 + 1, 0, none⟩), .pointer (some ⟨w.heap.size + 1 + 1 + 1, 0, none⟩)], .func (.func 21) #[] #[.pointer (some ⟨w.heap.size + 1 + 1 + 1 + 1, 0, none⟩), .pointer (some ⟨w.heap.size + 1 + 1 + 1, 0, none⟩)], .bool false, .func (.func 21) #[] #[.pointer (some ⟨w.heap.size + 1 + 1 + 1 + 1, 0, none⟩), .pointer (some ⟨w.heap.size + 1 + 1 + 1, 0, none⟩)], .int .i64 v.1, undef, undef, undef, undef, undef, undef, undef, undef, undef, undef, undef, undef, undef, undef, undef, undef, undef, undef, undef, undef, undef, undef, undef, undef, undef, undef, undef, undef, undef, undef, undef, undef, undef, undef, undef, undef, undef, undef, undef, undef, undef], defers := [] }) ?assign ?body ?done ?stop
  case assign =>
    intro l v W K hK
    gi_wp2
    exact hK
  case body =>
    clear hS hBox hx4
    rintro l pre ⟨v, hv⟩ W ⟨m, hr, hA⟩ hlen
    simp at hlen

  case done =>
    clear hS hBox hx4
    rintro D ys W hD rfl ⟨m, hr, hA⟩ hK
    obtain rfl : m = 0 := by simpa [Rounds] using hr
    clear hr
    have hA := hide hA
    obtain ⟨c0, c1, c2, c3, c4, c5, c6, cx, cr, fr, cn, fn, lt, kb⟩ := unhide hA
    gi_wp2_with fail
    refine ⟨trivial, ?_⟩
    refine (callsIn_wide.2 (may_no _ _ _ _ _ _ _ H.out _)).mono ?_
    rintro r w1 ⟨rfl, hb⟩
    have hA := hide ((unhide hA).next hb)
    have hK := (hb.block D (Array.getElem?_eq_some_iff.1 hK).1).trans hK
    clear hb
    obtain ⟨c0, c1, c2, c3, c4, c5, c6, cx, cr, fr, cn, fn, lt, kb⟩ := unhide hA
    gi_wp2_with fail
    refine ⟨trivial, ?_⟩
    refine (callsIn_wide.2 (awake_ok _)).mono ?_
    rintro r w2 ⟨rfl, hb⟩
    have hA := hide ((unhide hA).next hb)
    have hK := (hb.block D (Array.getElem?_eq_some_iff.1 hK).1).trans hK
    clear hb
    obtain ⟨c0, c1, c2, c3, c4, c5, c6, cx, cr, fr, cn, fn, lt, kb⟩ := unhide hA
    gi_wp2
    have hK' := (KeepsOthers.setCell w2 ⟨w.heap.size + 1 + 1, 0, none⟩ (.bool true)).same D _ hK rfl
    refine ⟨by simp, .inl ⟨_, _, rfl, run_takeDeferred hK', ?_⟩⟩
    have hc5 := cell_kept (World.cell?_setCell_same' w2 ⟨w.heap.size + 1 + 1, 0, none⟩ (.bool true) (by rw [cr]; rfl)) (grownBy_putObj' _ D (.deferred none)) (fun r e => by cases e; exact ⟨_, hK', rfl⟩)
    refine ⟨.bool true, ?_, rfl, (kb.setCell (p := ⟨w.heap.size + 1 + 1, 0, none⟩) (by show _ ≤ w.heap.size + 1 + 1; omega) _).trans (belowK_b (w := w) (Nat.le_refl _) _ D _ _ (by simp at hD; omega) hK' rfl rfl)⟩
    simp [results, Try.f5, go_sem, hc5]

  case stop =>
    rintro D c pre W _ hp hs _
    exact hp.elim


set_option maxHeartbeats 4000000 in
theorem lines_law_much (a b c d e f g x : Int) (h : Ok a b c d e f g) (hx : 0 ≤ x) (hx2 : b ≤ x) (w : World) : Calls Try.prog 5 #[.agg #[.int .i64 a, .int .i64 b, .int .i64 c, .int .i64 d, .int .i64 e, .int .i64 f, .int .i64 g], .int .i64 x] w fun r w' => r = .returned (.bool true) ∧ Below w.heap.size w w' := by
  have h1 : 1 ≤ b := h.2.1.1
  have h2 : b ≤ 16 := h.2.1.2
  have H := hide h
  clear h
  have hnil := func_nil
  have hBox : Box ((((w.alloc (.cells #[.int .i64 a, .int .i64 b, .int .i64 c, .int .i64 d, .int .i64 e, .int .i64 f, .int .i64 g] 23)).alloc (.cells #[.int .i64 x] 3)).alloc (.cells #[.bool false] 4)).alloc (.cells #[.int .i64 a, .int .i64 b, .int .i64 c, .int .i64 d, .int .i64 e, .int .i64 f, .int .i64 g] 23)) (w.heap.size + 1 + 1 + 1) a b c d e f g := by simpa using Box.new (((w.alloc (.cells #[.int .i64 a, .int .i64 b, .int .i64 c, .int .i64 d, .int .i64 e, .int .i64 f, .int .i64 g] 23)).alloc (.cells #[.int .i64 x] 3)).alloc (.cells #[.bool false] 4)) a b c d e f g 23
  have hBox := hide ((hBox.alloc (.cells #[.int .i64 x] 3)).alloc (.cells #[.int .i64 0] 3))
  have hx4 : ((((((((w.alloc (.cells #[.int .i64 a, .int .i64 b, .int .i64 c, .int .i64 d, .int .i64 e, .int .i64 f, .int .i64 g] 23)).alloc (.cells #[.int .i64 x] 3)).alloc (.cells #[.bool false] 4)).alloc (.cells #[.int .i64 a, .int .i64 b, .int .i64 c, .int .i64 d, .int .i64 e, .int .i64 f, .int .i64 g] 23)).alloc (.cells #[.int .i64 x] 3)).alloc (.cells #[.int .i64 0] 3)))).cell? ⟨w.heap.size + 1 + 1 + 1 + 1, 0, none⟩ = some (.int .i64 x) := by simp [go_sem]
  have hx4 := hide hx4
  have hS := hide (At.start w a b c d e f g x)
  refine (callsIn_wide (n := 3)).1 ?_
  refine callsIn_of_wp_marks Try.func5 rfl trivial ?_ rfl
  simp only [Try.ntmps5, List.size_toArray, List.length_cons, List.length_nil, Nat.reduceAdd, Nat.reduceSub, Array.replicate_succ, Array.replicate_zero, List.push_toArray, List.append_toArray, List.nil_append, List.cons_append]
  gi_wp2_with (refine ⟨trivial, ?_⟩; gi_at_call 18; refine (callsIn_wide.2 (linesOf_any _ _ _ _ _ _ _ _ _)).mono ?_; rintro e w' ⟨rfl, rfl⟩)
  refine wpIn_rangeFunc_ownF rfl (by omega) (gf := 21) (lb := #[.pointer (some ⟨w.heap.size + 1 + 1 + 1 + 1, 0, none⟩), .pointer (some ⟨w.heap.size + 1 + 1 + 1, 0, none⟩)]) rfl trivial (enters_of Try.func21 (by kernel_rfl) rfl)
    (none_much a b c d e f g x H.out hx hx2 (3 - 1) (by omega) (w.heap.size + 1 + 1 + 1) (w.heap.size + 1 + 1 + 1 + 1) (w.heap.size + 1 + 1 + 1 + 1 + 1) (by omega) (by omega) _ (by simp) (unhide hBox) (unhide hx4)) belowK_t (belowK_b (by simp)) (Below.refl _ _) (fun _ => rfl)
    (fun pre W => ∃ m, Rounds x pre m ∧ At w a b c d e f g x m W)
    (fun c pre W => pre ≠ [] ∧ pre ≠ [t0 x] ∧ pre ≠ [t0 x, t1 x])
    (At.own _ (by simp; omega) (Rounds x))
    (fun c s A B row hs hg hr => hs)
    ⟨0, .inl ⟨rfl, rfl⟩, unhide hS⟩
    (fun v => { tmps := #[.agg #[.int .i64 a, .int .i64 b, .int .i64 c, .int .i64 d, .int .i64 e, .int .i64 f, .int .i64 g], .int .i64 x, .pointer (some ⟨w.heap.size, 0, none⟩), .pointer (some ⟨w.heap.size + 1, 0, none⟩), .pointer (some ⟨w.heap.size + 1 + 1, 0, none⟩), .func (.func 21) #[] #[.pointer (some ⟨w.heap.size + 1 + 1 + 1 + 1, 0, none⟩), .pointer (some ⟨w.heap.size + 1 + 1 + 1, 0, none⟩)], .pointer (some ⟨w.heap.size + 1 + 1 + 1 + 1 + 1, 0, none⟩), .int .i64 v.1, undef, undef, undef, .agg #[.int .i64 a, .int .i64 b, .int .i64 c, .int .i64 d, .int .i64 e, .int .i64 f, .int .i64 g], .int .i64 x, .func (.func 21) #[] #[.pointer (some ⟨w.heap.size + 1 + 1 + 1 + 1, 0, none⟩), .pointer (some ⟨w.heap.size + 1 + 1 + 1, 0, none⟩)], .func (.func 21) #[] #[.pointer (some ⟨w.heap.size + 1 + 1 + 1 + 1, 0, none⟩), .pointer (some ⟨w.heap.size + 1 + 1 + 1, 0, none⟩)], .bool false, .func (.func 21) #[] #[.pointer (some ⟨w.heap.size + 1 + 1 + 1 + 1, 0, none⟩), .pointer (some ⟨w.heap.size + 1 + 1 + 1, 0, none⟩)], .int .i64 v.1, undef, undef, undef, undef, undef, undef, undef, undef, undef, undef, undef, undef, undef, undef, undef, undef, undef, undef, undef, undef, undef, undef, undef, undef, undef, undef, undef, undef, undef, undef, undef, undef, undef, undef, undef, undef, undef, undef, undef, undef, undef], defers := [] }) ?assign ?body ?done ?stop
  case assign =>
    intro l v W K hK
    gi_wp2
    exact hK
  case body =>
    clear hS hBox hx4
    rintro l pre ⟨v, hv⟩ W ⟨m, hr, hA⟩ hlen
    simp at hlen

  case done =>
    clear hS hBox hx4
    rintro D ys W hD rfl ⟨m, hr, hA⟩ hK
    obtain rfl : m = 0 := by simpa [Rounds] using hr
    clear hr
    have hA := hide hA
    obtain ⟨c0, c1, c2, c3, c4, c5, c6, cx, cr, fr, cn, fn, lt, kb⟩ := unhide hA
    gi_wp2_with fail
    refine ⟨trivial, ?_⟩
    refine (callsIn_wide.2 (may_yes _ _ _ _ _ _ _ H.out _)).mono ?_
    rintro r w1 ⟨rfl, hb⟩
    have hA := hide ((unhide hA).next hb)
    have hK := (hb.block D (Array.getElem?_eq_some_iff.1 hK).1).trans hK
    clear hb
    obtain ⟨c0, c1, c2, c3, c4, c5, c6, cx, cr, fr, cn, fn, lt, kb⟩ := unhide hA
    gi_wp2_with fail
    refine ⟨trivial, ?_⟩
    refine (callsIn_wide.2 (awake_ok _)).mono ?_
    rintro r w2 ⟨rfl, hb⟩
    have hA := hide ((unhide hA).next hb)
    have hK := (hb.block D (Array.getElem?_eq_some_iff.1 hK).1).trans hK
    clear hb
    obtain ⟨c0, c1, c2, c3, c4, c5, c6, cx, cr, fr, cn, fn, lt, kb⟩ := unhide hA
    gi_wp2
    have hK' := (KeepsOthers.setCell w2 ⟨w.heap.size + 1 + 1, 0, none⟩ (.bool true)).same D _ hK rfl
    refine ⟨by simp, .inl ⟨_, _, rfl, run_takeDeferred hK', ?_⟩⟩
    have hc5 := cell_kept (World.cell?_setCell_same' w2 ⟨w.heap.size + 1 + 1, 0, none⟩ (.bool true) (by rw [cr]; rfl)) (grownBy_putObj' _ D (.deferred none)) (fun r e => by cases e; exact ⟨_, hK', rfl⟩)
    refine ⟨.bool true, ?_, rfl, (kb.setCell (p := ⟨w.heap.size + 1 + 1, 0, none⟩) (by show _ ≤ w.heap.size + 1 + 1; omega) _).trans (belowK_b (w := w) (Nat.le_refl _) _ D _ _ (by simp at hD; omega) hK' rfl rfl)⟩
    simp [results, Try.f5, go_sem, hc5]

  case stop =>
    rintro D c pre W _ hp hs _
    exact hp.elim


set_option maxHeartbeats 4000000 in
theorem lines_law_bad (a b c d e f g x : Int) (h : ¬ Ok a b c d e f g) (hx : 0 ≤ x) (w : World) : Calls Try.prog 5 #[.agg #[.int .i64 a, .int .i64 b, .int .i64 c, .int .i64 d, .int .i64 e, .int .i64 f, .int .i64 g], .int .i64 x] w fun r w' => r = .returned (.bool true) ∧ Below w.heap.size w w' := by
  have H := hide h
  clear h
  have hnil := func_nil
  have hBox : Box ((((w.alloc (.cells #[.int .i64 a, .int .i64 b, .int .i64 c, .int .i64 d, .int .i64 e, .int .i64 f, .int .i64 g] 23)).alloc (.cells #[.int .i64 x] 3)).alloc (.cells #[.bool false] 4)).alloc (.cells #[.int .i64 a, .int .i64 b, .int .i64 c, .int .i64 d, .int .i64 e, .int .i64 f, .int .i64 g] 23)) (w.heap.size + 1 + 1 + 1) a b c d e f g := by simpa using Box.new (((w.alloc (.cells #[.int .i64 a, .int .i64 b, .int .i64 c, .int .i64 d, .int .i64 e, .int .i64 f, .int .i64 g] 23)).alloc (.cells #[.int .i64 x] 3)).alloc (.cells #[.bool false] 4)) a b c d e f g 23
  have hBox := hide ((hBox.alloc (.cells #[.int .i64 x] 3)).alloc (.cells #[.int .i64 0] 3))
  have hx4 : ((((((((w.alloc (.cells #[.int .i64 a, .int .i64 b, .int .i64 c, .int .i64 d, .int .i64 e, .int .i64 f, .int .i64 g] 23)).alloc (.cells #[.int .i64 x] 3)).alloc (.cells #[.bool false] 4)).alloc (.cells #[.int .i64 a, .int .i64 b, .int .i64 c, .int .i64 d, .int .i64 e, .int .i64 f, .int .i64 g] 23)).alloc (.cells #[.int .i64 x] 3)).alloc (.cells #[.int .i64 0] 3)))).cell? ⟨w.heap.size + 1 + 1 + 1 + 1, 0, none⟩ = some (.int .i64 x) := by simp [go_sem]
  have hx4 := hide hx4
  have hS := hide (At.start w a b c d e f g x)
  refine (callsIn_wide (n := 3)).1 ?_
  refine callsIn_of_wp_marks Try.func5 rfl trivial ?_ rfl
  simp only [Try.ntmps5, List.size_toArray, List.length_cons, List.length_nil, Nat.reduceAdd, Nat.reduceSub, Array.replicate_succ, Array.replicate_zero, List.push_toArray, List.append_toArray, List.nil_append, List.cons_append]
  gi_wp2_with (refine ⟨trivial, ?_⟩; gi_at_call 18; refine (callsIn_wide.2 (linesOf_any _ _ _ _ _ _ _ _ _)).mono ?_; rintro e w' ⟨rfl, rfl⟩)
  refine wpIn_rangeFunc_ownF rfl (by omega) (gf := 21) (lb := #[.pointer (some ⟨w.heap.size + 1 + 1 + 1 + 1, 0, none⟩), .pointer (some ⟨w.heap.size + 1 + 1 + 1, 0, none⟩)]) rfl trivial (enters_of Try.func21 (by kernel_rfl) rfl)
    (none_bad a b c d e f g x H.out hx (3 - 1) (by omega) (w.heap.size + 1 + 1 + 1) (w.heap.size + 1 + 1 + 1 + 1) (w.heap.size + 1 + 1 + 1 + 1 + 1) (by omega) (by omega) _ (by simp) (unhide hBox) (unhide hx4)) belowK_t (belowK_b (by simp)) (Below.refl _ _) (fun _ => rfl)
    (fun pre W => ∃ m, Rounds x pre m ∧ At w a b c d e f g x m W)
    (fun c pre W => pre ≠ [] ∧ pre ≠ [t0 x] ∧ pre ≠ [t0 x, t1 x])
    (At.own _ (by simp; omega) (Rounds x))
    (fun c s A B row hs hg hr => hs)
    ⟨0, .inl ⟨rfl, rfl⟩, unhide hS⟩
    (fun v => { tmps := #[.agg #[.int .i64 a, .int .i64 b, .int .i64 c, .int .i64 d, .int .i64 e, .int .i64 f, .int .i64 g], .int .i64 x, .pointer (some ⟨w.heap.size, 0, none⟩), .pointer (some ⟨w.heap.size + 1, 0, none⟩), .pointer (some ⟨w.heap.size + 1 + 1, 0, none⟩), .func (.func 21) #[] #[.pointer (some ⟨w.heap.size + 1 + 1 + 1 + 1, 0, none⟩), .pointer (some ⟨w.heap.size + 1 + 1 + 1, 0, none⟩)], .pointer (some ⟨w.heap.size + 1 + 1 + 1 + 1 + 1, 0, none⟩), .int .i64 v.1, undef, undef, undef, .agg #[.int .i64 a, .int .i64 b, .int .i64 c, .int .i64 d, .int .i64 e, .int .i64 f, .int .i64 g], .int .i64 x, .func (.func 21) #[] #[.pointer (some ⟨w.heap.size + 1 + 1 + 1 + 1, 0, none⟩), .pointer (some ⟨w.heap.size + 1 + 1 + 1, 0, none⟩)], .func (.func 21) #[] #[.pointer (some ⟨w.heap.size + 1 + 1 + 1 + 1, 0, none⟩), .pointer (some ⟨w.heap.size + 1 + 1 + 1, 0, none⟩)], .bool false, .func (.func 21) #[] #[.pointer (some ⟨w.heap.size + 1 + 1 + 1 + 1, 0, none⟩), .pointer (some ⟨w.heap.size + 1 + 1 + 1, 0, none⟩)], .int .i64 v.1, undef, undef, undef, undef, undef, undef, undef, undef, undef, undef, undef, undef, undef, undef, undef, undef, undef, undef, undef, undef, undef, undef, undef, undef, undef, undef, undef, undef, undef, undef, undef, undef, undef, undef, undef, undef, undef, undef, undef, undef, undef], defers := [] }) ?assign ?body ?done ?stop
  case assign =>
    intro l v W K hK
    gi_wp2
    exact hK
  case body =>
    clear hS hBox hx4
    rintro l pre ⟨v, hv⟩ W ⟨m, hr, hA⟩ hlen
    simp at hlen

  case done =>
    clear hS hBox hx4
    rintro D ys W hD rfl ⟨m, hr, hA⟩ hK
    obtain rfl : m = 0 := by simpa [Rounds] using hr
    clear hr
    have hA := hide hA
    obtain ⟨c0, c1, c2, c3, c4, c5, c6, cx, cr, fr, cn, fn, lt, kb⟩ := unhide hA
    gi_wp2_with fail
    refine ⟨trivial, ?_⟩
    refine (callsIn_wide.2 (may_no _ _ _ _ _ _ _ H.out _)).mono ?_
    rintro r w1 ⟨rfl, hb⟩
    have hA := hide ((unhide hA).next hb)
    have hK := (hb.block D (Array.getElem?_eq_some_iff.1 hK).1).trans hK
    clear hb
    obtain ⟨c0, c1, c2, c3, c4, c5, c6, cx, cr, fr, cn, fn, lt, kb⟩ := unhide hA
    gi_wp2_with fail
    refine ⟨trivial, ?_⟩
    refine (callsIn_wide.2 (awake_ok _)).mono ?_
    rintro r w2 ⟨rfl, hb⟩
    have hA := hide ((unhide hA).next hb)
    have hK := (hb.block D (Array.getElem?_eq_some_iff.1 hK).1).trans hK
    clear hb
    obtain ⟨c0, c1, c2, c3, c4, c5, c6, cx, cr, fr, cn, fn, lt, kb⟩ := unhide hA
    gi_wp2
    have hK' := (KeepsOthers.setCell w2 ⟨w.heap.size + 1 + 1, 0, none⟩ (.bool true)).same D _ hK rfl
    refine ⟨by simp, .inl ⟨_, _, rfl, run_takeDeferred hK', ?_⟩⟩
    have hc5 := cell_kept (World.cell?_setCell_same' w2 ⟨w.heap.size + 1 + 1, 0, none⟩ (.bool true) (by rw [cr]; rfl)) (grownBy_putObj' _ D (.deferred none)) (fun r e => by cases e; exact ⟨_, hK', rfl⟩)
    refine ⟨.bool true, ?_, rfl, (kb.setCell (p := ⟨w.heap.size + 1 + 1, 0, none⟩) (by show _ ≤ w.heap.size + 1 + 1; omega) _).trans (belowK_b (w := w) (Nat.le_refl _) _ D _ _ (by simp at hD; omega) hK' rfl rfl)⟩
    simp [results, Try.f5, go_sem, hc5]

  case stop =>
    rintro D c pre W _ hp hs _
    exact hp.elim

end Go.Proofs.Ytgdbjkkhmamdmaa
