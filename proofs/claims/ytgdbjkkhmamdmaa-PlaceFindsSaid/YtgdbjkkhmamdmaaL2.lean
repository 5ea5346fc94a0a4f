/- Which line a word is in, and which granule, and bank, a line is in: for every configuration, word, line and place the law PlaceFinds returns true, and its arguments read as they did. No condition. -/
import Derived.Test.YtgdbjkkhmamdmaaQ
import Derived.Test.YtgdbjkkhmamdmaaU2
namespace Go.Proofs.Ytgdbjkkhmamdmaa.finds
open Go.ChangeShapes Go.WideShapes Go.ChangeAt Go.RowKit
theorem own : ownKnob Try.prog.godebug = none := by kernel_rfl
theorem cells23 : Try.prog.cellsOf 23 = 7 := by kernel_rfl
theorem cells29 : Try.prog.cellsOf 29 = 2 := by kernel_rfl
theorem cells3 : Try.prog.cellsOf 3 = 1 := by kernel_rfl
theorem laidOut : laidOutB Try.prog = true := by kernel_rfl
theorem law (a b c d e f g x y0 y1 : Int) (w : World) : Calls Try.prog 4 #[.agg #[.int .i64 a, .int .i64 b, .int .i64 c, .int .i64 d, .int .i64 e, .int .i64 f, .int .i64 g], .int .i64 x, .agg #[.int .i64 y0, .int .i64 y1]] w fun r w' => r = .returned (.bool true) ∧ Below w.heap.size w w' := by
  by_cases h : Ok a b c d e f g
  · by_cases hx : 0 ≤ x ∧ x < b * 2 * 2
    · by_cases hl : 0 ≤ y0 ∧ y0 < b * 2
      · by_cases h1 : y1 < 0
        · exact finds_xy_lo1 a b c d e f g x y0 y1 h hx.1 hx.2 hl.1 hl.2 h1 w
        · by_cases h2 : y1 < 2
          · exact finds_xy_ly a b c d e f g x y0 y1 h hx.1 hx.2 hl.1 hl.2 (by omega) h2 w
          · exact finds_xy_lo2 a b c d e f g x y0 y1 h hx.1 hx.2 hl.1 hl.2 (by omega) w
      · exact finds_xy_ln a b c d e f g x y0 y1 h hx.1 hx.2 hl w
    · by_cases hl : 0 ≤ y0 ∧ y0 < b * 2
      · by_cases h1 : y1 < 0
        · exact finds_xn_lo1 a b c d e f g x y0 y1 h hx hl.1 hl.2 h1 w
        · by_cases h2 : y1 < 2
          · exact finds_xn_ly a b c d e f g x y0 y1 h hx hl.1 hl.2 (by omega) h2 w
          · exact finds_xn_lo2 a b c d e f g x y0 y1 h hx hl.1 hl.2 (by omega) w
      · exact finds_xn_ln a b c d e f g x y0 y1 h hx hl w
  · exact finds_bad a b c d e f g x y0 y1 h w
set_option maxRecDepth 100000 in
theorem lifted (os : Os) (started : os.Started) (H : Type) (enc : TypeId × Value → H) :
    ReturnsInHanded {} Try.checked os 4 .any (Rows.placeFindsSpec.pre6 enc Try.prog Try.f4 Rows.placeFindsRow.domain false) (Rows.placeFindsSpec.post enc Try.prog Try.f4 false true false false) := by
  refine returnsInHanded_of_change (C := Try.checked) own started (by kernel_rfl) Try.func4
    (ChangeSpec.witness6 (enc := enc) (C := Try.checked) false ⟨#[], #[.agg #[.int .i64 0, .int .i64 0, .int .i64 0, .int .i64 0, .int .i64 0, .int .i64 0, .int .i64 0], .int .i64 0, .agg #[.int .i64 0, .int .i64 0]], []⟩ 8 (by kernel_rfl) (by kernel_rfl) (by kernel_rfl) (by kernel_rfl)) ?_
  intro W base args ds gs before hval0 hW hcnd _
  have hval : ∀ (j : Nat) t v, Try.f4.params[j]? = some t → args[j]? = some v → Value.okWide Try.prog W .any base t v := hval0
  have hW' := hW
  obtain ⟨p, q, hA0, hV, rfl, hfz, hnd⟩ := hW
  have hA : DataW.TrodAll enc Try.prog W 0 (fun _ => true) true Try.f4.params.toList args.toList ds p := hA0
  rw [Try.params4] at hA hval
  obtain ⟨v0, vs0, d0, ds0, p0, q0, hargs, rfl, rfl, h0, r0⟩ := trodAll_cons hA
  obtain ⟨v1, vs1, d1, ds1, p1, q1, rfl, rfl, rfl, h1, r1⟩ := trodAll_cons r0
  obtain ⟨v2, vs2, d2, ds2, p2, q2, rfl, rfl, rfl, h2, r2⟩ := trodAll_cons r1
  obtain ⟨rfl, rfl, rfl⟩ := trodAll_nil r2
  obtain rfl : args = #[v0, v1, v2] := by cases args; simp_all
  obtain ⟨rfl, rfl⟩ := trodVars_none hV
  have k0 := h0
  have lt0 : ∀ x ∈ p0, x.block < W.heap.size := by obtain ⟨m, hm⟩ := k0; exact DataW.trod_lt m _ _ _ hm
  have k2 := h2
  have lt2 : ∀ x ∈ p2, x.block < W.heap.size := by obtain ⟨m, hm⟩ := k2; exact DataW.trod_lt m _ _ _ hm
  obtain ⟨x0, x1, x2, x3, x4, x5, x6, rfl, hp0, -⟩ := open_ints7 Try.underlying23 (by kernel_rfl) cells23 Try.underlying3 rfl rfl rfl rfl rfl rfl rfl (hval 0 23 v0 rfl rfl) h0
  obtain ⟨x, rfl, rfl, rfl, wx⟩ := open_int Try.underlying3 (hval 1 3 v1 rfl rfl) h1
  obtain ⟨y0, y1, rfl, hp2, -⟩ := open_pair Try.underlying29 cells3 cells29 Try.underlying3 (hval 2 29 v2 rfl rfl) h2
  clear hA0 hval0
  refine (law x0 x1 x2 x3 x4 x5 x6 x y0 y1 W).mono fun e W' ⟨he, bel⟩ => ?_
  subst he
  exact ⟨_, rfl, _, _, _, [], _, [], hW', trodAll_mk1 (shut_bool Try.underlying4 _), (trodAll_cons_mk (Below.trod laidOut (by kernel_rfl) (of_decide_eq_true (by kernel_rfl)) k0 bel lt0) (trodAll_cons_mk (shut_int Try.underlying3 wx) (trodAll_cons_mk (Below.trod laidOut (by kernel_rfl) (of_decide_eq_true (by kernel_rfl)) k2 bel lt2) trodAll_mk0))), rfl, bel.frame _, fun h => by cases h⟩
theorem over : Rows.placeFindsRow.holds Try.pinned (OpenSpec.ofChange Rows.placeFindsSpec) :=
  OpenClaim.holds_of_wide 4 Try.f4 rfl rfl rfl rfl rfl rfl rfl ⟨rfl, rfl, rfl, rfl, rfl⟩ rfl rfl rfl rfl rfl (by kernel_rfl) Try.func4 (by kernel_rfl)
    (of_decide_eq_true (by kernel_rfl)) (by unfold Func.isWrapper; first | (rw [if_pos (by decide +kernel)]; kernel_rfl) | (rw [if_neg (by decide +kernel)]; exact ⟨rfl, rfl⟩))
    (fun os started H enc _ => lifted os started H enc)
theorem proved : Rows.PlaceFindsSaid := over
#print axioms proved
end Go.Proofs.Ytgdbjkkhmamdmaa.finds
