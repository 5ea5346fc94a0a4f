/- NoteChecks: its ways, each call told by a tree of answers. No condition. -/
import Derived.Test.YtpabnkbpklggnaaDoorNG
import Derived.KernelRfl
namespace Go.Proofs.YtpabnkbpklggnaaDoor
open Go.RowKit
set_option linter.unusedVariables false
set_option maxRecDepth 100000

noncomputable def sK : Nat → IE := sOf [.at 15]
noncomputable def s7 : Nat → IE := sOf [.at 7]
noncomputable def sZ : Nat → IE := sOf [.at 0, .at 1, .at 7, .at 8, .at 9, .at 10, .at 11, .at 12, .at 13, .at 14]
noncomputable def ii (n : Int) : SV := .int .i64 (.lit n)
noncomputable def setK : List (List SV) := [[.bool true, ii 0, .tup [ii 0, ii 0]], [.bool true, ii 1, .tup [ii 1, ii 0]], [.bool false, ii 2, .tup [ii 2, ii 0]], [.bool false, ii 3, .tup [ii 3, ii 0]], [.bool false, ii (-1), .tup [ii 0, ii 15]]]
noncomputable def setC : List (List SV) := [[ii 15, ii (-1), .bool false], [ii 10, ii 0, .bool false], [ii 10, ii 1, .bool false], [ii 10, ii 2, .bool false], [ii 10, ii 3, .bool false], [ii 15, ii (-1), .bool true], [ii 10, ii 0, .bool true], [ii 10, ii 1, .bool true], [ii 10, ii 2, .bool true], [ii 10, ii 3, .bool true], [ii 0, ii 0, .bool true], [ii 0, ii 1, .bool true], [ii 0, ii 2, .bool true], [ii 0, ii 3, .bool true]]
theorem kinds_ok : allJ (inSet setK) [(atL8, sK), (atL9, sK), (atH10, sK)] [] (rangeAsm 16) = true := by kernel_rfl
noncomputable def letsNC (cf nt : SV) (a b : List SV) : List LetC :=
  match a, b with
  | [h, r, l], [c, q, m] => [⟨8, [.int .i64 (.at 15)], l⟩, ⟨9, [.int .i64 (.at 15)], r⟩, ⟨10, [.int .i64 (.at 15)], h⟩, ⟨11, [cf], m⟩, ⟨9, [.int .i64 (.at 7)], q⟩, ⟨12, [cf, nt], c⟩] ++ (bif SV.beq m (.bool true) then [⟨14, [.agg [.int .i64 (.at 0), .int .i64 (.at 1)], nt], c⟩] else [])
  | _, _ => []
noncomputable def cfNC : SV := .agg [.int .i64 (.at 0), .int .i64 (.at 1), .int .i64 (.at 2), .int .i64 (.at 3), .int .i64 (.at 4), .int .i64 (.at 5), .int .i64 (.at 6)]
noncomputable def ntNC0 : SV := .agg [.int .i64 (.at 7), .int .i64 (.at 8), .int .i64 (.at 9), .int .i64 (.at 10), .int .i64 (.at 11), .int .i64 (.at 12), .int .i64 (.at 13), .bool false, .int .i64 (.at 14)]
theorem checks0 : allJ (inSet setC) [(atM1, sId), (atL9, s7), (atC0, sId)] [] (rangeAsm 16) = true := by kernel_rfl
/-- Where the configuration may be, both checks answer alike. -/
theorem both0 : atM1.each sId (fun A v => SV.beq v (.bool false) || atC0.each sId (fun A e => atR0.each sZ (fun _ f => SV.beq f e) A) A) (rangeAsm 16) = true := by kernel_rfl
noncomputable def runNC0 (a b : List SV) : Bool := isTrueR ((rk ⟨Tryd.prog, {}, 5⟩ ((letBase tsY03 (letsNC cfNC ntNC0 a b)).or bk3) 3000).call 3 [cfNC, ntNC0, .int .i64 (.at 15)] (tabHeap tsY03) 5)
theorem runs0 : (setK.all fun a => setC.all fun b => runNC0 a b) = true := by kernel_rfl
theorem wayNC0 (i0 i1 i2 i3 i4 i5 i6 i7 i8 i9 i10 i11 i12 i13 i14 i15 : Int) (hr : ∀ x ∈ ([i0, i1, i2, i3, i4, i5, i6, i7, i8, i9, i10, i11, i12, i13, i14, i15] : List Int), (Lit.int .i64 x).wf = true) (W : World) (hT : TabsIn (valOf [i0, i1, i2, i3, i4, i5, i6, i7, i8, i9, i10, i11, i12, i13, i14, i15]) 5 tsY03 W) :
    Calls Tryd.prog 3 #[.agg #[.int .i64 i0, .int .i64 i1, .int .i64 i2, .int .i64 i3, .int .i64 i4, .int .i64 i5, .int .i64 i6], .agg #[.int .i64 i7, .int .i64 i8, .int .i64 i9, .int .i64 i10, .int .i64 i11, .int .i64 i12, .int .i64 i13, .bool false, .int .i64 i14], .int .i64 i15] W fun e W' => e = .returned (.bool true) ∧ Below W.heap.size W W' := by
  have hR := valOf_range hr
  have hA := rangeAsm_ok hr 16
  have hU : DenL (valOf [i0, i1, i2, i3, i4, i5, i6, i7, i8, i9, i10, i11, i12, i13, i14, i15]) (rho0 5) [cfNC, ntNC0, .int .i64 (.at 15)] [.agg #[.int .i64 i0, .int .i64 i1, .int .i64 i2, .int .i64 i3, .int .i64 i4, .int .i64 i5, .int .i64 i6], .agg #[.int .i64 i7, .int .i64 i8, .int .i64 i9, .int .i64 i10, .int .i64 i11, .int .i64 i12, .int .i64 i13, .bool false, .int .i64 i14], .int .i64 i15] := by
    simp [cfNC, ntNC0, DenL, Den, IE.den, valOf]
  generalize (valOf [i0, i1, i2, i3, i4, i5, i6, i7, i8, i9, i10, i11, i12, i13, i14, i15]) = E at hR hA hT hU
  obtain ⟨l, hl⟩ : ∃ x, atL8.at (fun i => (sK i).den E.I) = x := ⟨_, rfl⟩
  obtain ⟨r, hrr⟩ : ∃ x, atL9.at (fun i => (sK i).den E.I) = x := ⟨_, rfl⟩
  obtain ⟨h, hh⟩ : ∃ x, atH10.at (fun i => (sK i).den E.I) = x := ⟨_, rfl⟩
  obtain ⟨m, hm⟩ : ∃ x, atM1.at (fun i => (sId i).den E.I) = x := ⟨_, rfl⟩
  obtain ⟨q, hq⟩ : ∃ x, atL9.at (fun i => (s7 i).den E.I) = x := ⟨_, rfl⟩
  obtain ⟨c, hc⟩ : ∃ x, atC0.at (fun i => (sId i).den E.I) = x := ⟨_, rfl⟩
  have j1 := joint hA kinds_ok
  have j2 := joint hA checks0
  simp only [List.map_cons, List.map_nil, List.reverse_cons, List.reverse_nil, List.nil_append, List.cons_append, hl, hrr, hh, hm, hq, hc] at j1 j2
  have run := List.all_eq_true.1 (List.all_eq_true.1 runs0 _ j1) _ j2
  have hs1 : ∀ i, -9223372036854775808 ≤ (sK i).den E.I ∧ (sK i).den E.I ≤ 9223372036854775807 := sOf_range hR (by kernel_rfl)
  have hs7 : ∀ i, -9223372036854775808 ≤ (s7 i).den E.I ∧ (s7 i).den E.I ≤ 9223372036854775807 := sOf_range hR (by kernel_rfl)
  have hsZ : ∀ i, -9223372036854775808 ≤ (sZ i).den E.I ∧ (sZ i).den E.I ≤ 9223372036854775807 := sOf_range hR (by kernel_rfl)
  refine law_let (B := fun _ => bk3) tsY03_lit run ⟨fun _ _ _ _ h => (by cases h), fun _ _ h => (by cases h)⟩ (bk3_ok E _) (fun x hx => ?_) hT hU
  simp only [letsNC, List.mem_append, List.mem_cons, List.not_mem_nil, or_false] at hx
  rcases hx with (rfl | rfl | rfl | rfl | rfl | rfl) | hx
  · exact ⟨by kernel_rfl, letOk_inst (c := ⟨8, patL8, 1, atL8⟩) tsY03_lit okL8 plainL8 sK hs1 hl (by kernel_rfl)⟩
  · exact ⟨by kernel_rfl, letOk_inst (c := ⟨9, patL9, 1, atL9⟩) tsY03_lit okL9 plainL9 sK hs1 hrr (by kernel_rfl)⟩
  · exact ⟨by kernel_rfl, letOk_inst (c := ⟨10, patH10, 1, atH10⟩) tsY03_lit okH10 plainH10 sK hs1 hh (by kernel_rfl)⟩
  · exact ⟨by kernel_rfl, letOk_inst (c := ⟨11, patM1, 7, atM1⟩) tsY03_lit okM1 plainM1 sId hR hm (by kernel_rfl)⟩
  · exact ⟨by kernel_rfl, letOk_inst (c := ⟨9, patL9, 1, atL9⟩) tsY03_lit okL9 plainL9 s7 hs7 hq (by kernel_rfl)⟩
  · exact ⟨by kernel_rfl, letOk_inst (c := ⟨12, patC0, 15, atC0⟩) tsY03_lit okC0 plainC0 sId hR hc (by kernel_rfl)⟩
  · cases em : SV.beq m (.bool true) with
    | false => rw [em] at hx; cases hx
    | true =>
      rw [em] at hx
      obtain rfl := List.mem_singleton.1 hx
      obtain rfl := SV.eq_of_beq em
      obtain ⟨A1, hA1, k1⟩ := ATree.each_ok sId hA both0
      rw [hm] at k1
      have k1' : atC0.each sId (fun A e => atR0.each sZ (fun _ f => SV.beq f e) A) A1 = true := by simpa [SV.beq] using k1
      obtain ⟨A2, hA2, k2⟩ := ATree.each_ok sId hA1 k1'
      obtain ⟨A3, hA3, k3⟩ := ATree.each_ok sZ hA2 k2
      rw [hc] at k3
      exact ⟨by kernel_rfl, letOk_inst (c := ⟨14, patR0, 10, atR0⟩) tsY03_lit okR0 plainR0 sZ hsZ (SV.eq_of_beq k3) (by kernel_rfl)⟩
noncomputable def ntNC1 : SV := .agg [.int .i64 (.at 7), .int .i64 (.at 8), .int .i64 (.at 9), .int .i64 (.at 10), .int .i64 (.at 11), .int .i64 (.at 12), .int .i64 (.at 13), .bool true, .int .i64 (.at 14)]
theorem checks1 : allJ (inSet setC) [(atM1, sId), (atL9, s7), (atC1, sId)] [] (rangeAsm 16) = true := by kernel_rfl
/-- Where the configuration may be, both checks answer alike. -/
theorem both1 : atM1.each sId (fun A v => SV.beq v (.bool false) || atC1.each sId (fun A e => atR1.each sZ (fun _ f => SV.beq f e) A) A) (rangeAsm 16) = true := by kernel_rfl
noncomputable def runNC1 (a b : List SV) : Bool := isTrueR ((rk ⟨Tryd.prog, {}, 5⟩ ((letBase tsY03 (letsNC cfNC ntNC1 a b)).or bk3) 3000).call 3 [cfNC, ntNC1, .int .i64 (.at 15)] (tabHeap tsY03) 5)
theorem runs1 : (setK.all fun a => setC.all fun b => runNC1 a b) = true := by kernel_rfl
theorem wayNC1 (i0 i1 i2 i3 i4 i5 i6 i7 i8 i9 i10 i11 i12 i13 i14 i15 : Int) (hr : ∀ x ∈ ([i0, i1, i2, i3, i4, i5, i6, i7, i8, i9, i10, i11, i12, i13, i14, i15] : List Int), (Lit.int .i64 x).wf = true) (W : World) (hT : TabsIn (valOf [i0, i1, i2, i3, i4, i5, i6, i7, i8, i9, i10, i11, i12, i13, i14, i15]) 5 tsY03 W) :
    Calls Tryd.prog 3 #[.agg #[.int .i64 i0, .int .i64 i1, .int .i64 i2, .int .i64 i3, .int .i64 i4, .int .i64 i5, .int .i64 i6], .agg #[.int .i64 i7, .int .i64 i8, .int .i64 i9, .int .i64 i10, .int .i64 i11, .int .i64 i12, .int .i64 i13, .bool true, .int .i64 i14], .int .i64 i15] W fun e W' => e = .returned (.bool true) ∧ Below W.heap.size W W' := by
  have hR := valOf_range hr
  have hA := rangeAsm_ok hr 16
  have hU : DenL (valOf [i0, i1, i2, i3, i4, i5, i6, i7, i8, i9, i10, i11, i12, i13, i14, i15]) (rho0 5) [cfNC, ntNC1, .int .i64 (.at 15)] [.agg #[.int .i64 i0, .int .i64 i1, .int .i64 i2, .int .i64 i3, .int .i64 i4, .int .i64 i5, .int .i64 i6], .agg #[.int .i64 i7, .int .i64 i8, .int .i64 i9, .int .i64 i10, .int .i64 i11, .int .i64 i12, .int .i64 i13, .bool true, .int .i64 i14], .int .i64 i15] := by
    simp [cfNC, ntNC1, DenL, Den, IE.den, valOf]
  generalize (valOf [i0, i1, i2, i3, i4, i5, i6, i7, i8, i9, i10, i11, i12, i13, i14, i15]) = E at hR hA hT hU
  obtain ⟨l, hl⟩ : ∃ x, atL8.at (fun i => (sK i).den E.I) = x := ⟨_, rfl⟩
  obtain ⟨r, hrr⟩ : ∃ x, atL9.at (fun i => (sK i).den E.I) = x := ⟨_, rfl⟩
  obtain ⟨h, hh⟩ : ∃ x, atH10.at (fun i => (sK i).den E.I) = x := ⟨_, rfl⟩
  obtain ⟨m, hm⟩ : ∃ x, atM1.at (fun i => (sId i).den E.I) = x := ⟨_, rfl⟩
  obtain ⟨q, hq⟩ : ∃ x, atL9.at (fun i => (s7 i).den E.I) = x := ⟨_, rfl⟩
  obtain ⟨c, hc⟩ : ∃ x, atC1.at (fun i => (sId i).den E.I) = x := ⟨_, rfl⟩
  have j1 := joint hA kinds_ok
  have j2 := joint hA checks1
  simp only [List.map_cons, List.map_nil, List.reverse_cons, List.reverse_nil, List.nil_append, List.cons_append, hl, hrr, hh, hm, hq, hc] at j1 j2
  have run := List.all_eq_true.1 (List.all_eq_true.1 runs1 _ j1) _ j2
  have hs1 : ∀ i, -9223372036854775808 ≤ (sK i).den E.I ∧ (sK i).den E.I ≤ 9223372036854775807 := sOf_range hR (by kernel_rfl)
  have hs7 : ∀ i, -9223372036854775808 ≤ (s7 i).den E.I ∧ (s7 i).den E.I ≤ 9223372036854775807 := sOf_range hR (by kernel_rfl)
  have hsZ : ∀ i, -9223372036854775808 ≤ (sZ i).den E.I ∧ (sZ i).den E.I ≤ 9223372036854775807 := sOf_range hR (by kernel_rfl)
  refine law_let (B := fun _ => bk3) tsY03_lit run ⟨fun _ _ _ _ h => (by cases h), fun _ _ h => (by cases h)⟩ (bk3_ok E _) (fun x hx => ?_) hT hU
  simp only [letsNC, List.mem_append, List.mem_cons, List.not_mem_nil, or_false] at hx
  rcases hx with (rfl | rfl | rfl | rfl | rfl | rfl) | hx
  · exact ⟨by kernel_rfl, letOk_inst (c := ⟨8, patL8, 1, atL8⟩) tsY03_lit okL8 plainL8 sK hs1 hl (by kernel_rfl)⟩
  · exact ⟨by kernel_rfl, letOk_inst (c := ⟨9, patL9, 1, atL9⟩) tsY03_lit okL9 plainL9 sK hs1 hrr (by kernel_rfl)⟩
  · exact ⟨by kernel_rfl, letOk_inst (c := ⟨10, patH10, 1, atH10⟩) tsY03_lit okH10 plainH10 sK hs1 hh (by kernel_rfl)⟩
  · exact ⟨by kernel_rfl, letOk_inst (c := ⟨11, patM1, 7, atM1⟩) tsY03_lit okM1 plainM1 sId hR hm (by kernel_rfl)⟩
  · exact ⟨by kernel_rfl, letOk_inst (c := ⟨9, patL9, 1, atL9⟩) tsY03_lit okL9 plainL9 s7 hs7 hq (by kernel_rfl)⟩
  · exact ⟨by kernel_rfl, letOk_inst (c := ⟨12, patC1, 15, atC1⟩) tsY03_lit okC1 plainC1 sId hR hc (by kernel_rfl)⟩
  · cases em : SV.beq m (.bool true) with
    | false => rw [em] at hx; cases hx
    | true =>
      rw [em] at hx
      obtain rfl := List.mem_singleton.1 hx
      obtain rfl := SV.eq_of_beq em
      obtain ⟨A1, hA1, k1⟩ := ATree.each_ok sId hA both1
      rw [hm] at k1
      have k1' : atC1.each sId (fun A e => atR1.each sZ (fun _ f => SV.beq f e) A) A1 = true := by simpa [SV.beq] using k1
      obtain ⟨A2, hA2, k2⟩ := ATree.each_ok sId hA1 k1'
      obtain ⟨A3, hA3, k3⟩ := ATree.each_ok sZ hA2 k2
      rw [hc] at k3
      exact ⟨by kernel_rfl, letOk_inst (c := ⟨14, patR1, 10, atR1⟩) tsY03_lit okR1 plainR1 sZ hsZ (SV.eq_of_beq k3) (by kernel_rfl)⟩
end Go.Proofs.YtpabnkbpklggnaaDoor
