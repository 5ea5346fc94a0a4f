/- PlaceBack walked. -/
import Derived.Test.YtgdbjkkhmamdmaaBL
import Derived.RangeFuncNested
import Derived.RangeFuncBound
import Derived.RangeFuncCalls
import Derived.RangeFuncLeaves
import Derived.Shelf.Abstract
import Derived.Shelf.RegionOpen
import Derived.WalkKit
import Derived.WalkSpells
import Derived.ProofKit
import Derived.OwnWalkIn
import Derived.TacticsInMore
import Derived.LoopNIn
import Derived.LoopIn
import Derived.Outline
import Derived.IntWalk
import Derived.LoopTactic
import Derived.Deep.RegionHeld3
import Derived.Deep.Draws
import Derived.BigQuiet
import Derived.Deep.QuietTactic
import Derived.Below
namespace Go.Proofs.Ytgdbjkkhmamdmaa
open Go.RowKit Go.Shelf
attribute [local go_sem] Oper.semAt_some
set_option linter.unusedVariables false
set_option maxRecDepth 100000
def IJ (w0 : World) (a b c d e f g : Int) (G M : Nat) (Ds : List Nat) (k : Nat) (pre : List (Two (k : Int))) (W : World) : Prop :=
  ∃ (m : Nat) (φ : Nat → Int) (s : Int), ((pre = [] ∧ m = 0) ∨ (pre = [t0 k] ∧ m = 1) ∨ (pre = [t0 k, t1 k] ∧ m = 2)) ∧ s = ((2 * k + m : Nat) : Int) ∧ Cnt G (2 * k + m) φ ∧ Pb w0 W a b c d e f g M φ s ∧ ∀ D ∈ Ds, W.heap[D]? = some (.deferred (some []))
theorem IJ.own {w0 : World} {a b c d e f g : Int} {G M : Nat} {Ds : List Nat} {k : Nat} (B : Nat) (hB : M + 1 < B) (hD : ∀ D ∈ Ds, D < B) : OwnFrom B (IJ w0 a b c d e f g G M Ds k) := by
  rintro s A B' row ⟨m, φ, z, h1, h2, h3, h4, h5⟩ hg hr
  have F : Fr (fun k => row = some k) A B' := ⟨hg.os, hg.tape, hg.output, hg.size, fun i hi hn => hg.block i hi (fun e => hn e.symm)⟩
  refine ⟨m, φ, z, h1, h2, h3, h4.fr F (fun k e => Nat.lt_of_lt_of_le hB (hr k e).1), fun D hD' => ?_⟩
  have hx := h5 D hD'
  exact (F.block D (Array.getElem?_eq_some_iff.1 hx).1 (fun e => by have := (hr D e).1; have := hD D hD'; omega)).trans hx
/-- The second loop's relation. -/
def OI (w0 : World) (a b c d e f g : Int) (G M : Nat) (t : Value) (ds : List Deferred) (W : World) : Prop :=
  ∃ (k : Nat) (Ds : List Nat) (φ : Nat → Int) (s : Int), t = .int .i64 k ∧ (k : Int) ≤ b ∧ ds = Ds.map ent ∧ Ds.Nodup ∧ (∀ D ∈ Ds, M + 1 < D ∧ W.heap[D]? = some (.deferred (some []))) ∧ s = ((2 * k : Nat) : Int) ∧ Cnt G (2 * k) φ ∧ Pb w0 W a b c d e f g M φ s
theorem zero_banks : ∃ cs : Array Value, (∀ W, (zeroValue 43).run Try.prog W = .ok (.agg cs) W) ∧ cs = Array.replicate 4 (.int .i64 0) :=
  ⟨_, fun W => by kernel_rfl, rfl⟩
set_option maxHeartbeats 8000000 in
theorem back_in (a b c d e f g : Int) (h : Ok a b c d e f g) (w : World) : Calls Try.prog 6 #[.agg #[.int .i64 a, .int .i64 b, .int .i64 c, .int .i64 d, .int .i64 e, .int .i64 f, .int .i64 g]] w fun r w' => r = .returned (.bool true) ∧ Below w.heap.size w w' := by
  have h1 : 1 ≤ b := h.2.1.1
  have h2 : b ≤ 16 := h.2.1.2
  have h3 : 1 ≤ g := h.2.2.2.2.2.2.1
  have h4 : g ≤ 4 := h.2.2.2.2.2.2.2
  have H := hide h
  clear h
  have S0 := hide (P0.start w a b c d e f g)
  obtain ⟨cs, hz, hcs⟩ := zero_banks
  have HC := hide hcs
  clear hcs
  obtain ⟨q, c0, c1, c2, c3, c4, c5, c6⟩ := S0.out.box
  refine (callsIn_wide (n := 3)).1 ?_
  refine callsIn_of_wp_marks Try.func6 rfl trivial ?_ rfl
  simp only [Try.ntmps6, List.size_toArray, List.length_cons, List.length_nil, Nat.reduceAdd, Nat.reduceSub, Array.replicate_succ, Array.replicate_zero, List.push_toArray, List.append_toArray, List.nil_append, List.cons_append]
  refine wpIn_wide.2 ?_
  go_wp2_with fail
  refine (may_yes _ _ _ _ _ _ _ H.out _).mono ?_
  rintro r w1 ⟨rfl, hb⟩
  have S1 := hide (S0.out.next hb)
  clear hb c0 c1 c2 c3 c4 c5 c6 q S0
  go_wp2_with fail
  go_loopw [3] (fun v3 wr => ∃ k : Nat, (k : Int) ≤ b * 2 * 2 ∧ v3 = .int .i64 k ∧ P0 w wr a b c d e f g) (fun v3 _ => (b * 2 * 2 - intOf v3).toNat)
  case atStart => exact ⟨0, by omega, rfl, S1.out⟩
  case round =>
    obtain ⟨k, hk, rfl, hP⟩ := hrel
    have P := hide hP
    obtain ⟨q, c0, c1, c2, c3, c4, c5, c6⟩ := hP.box
    clear hP
    go_wp2_with fail
    refine (words_yes _ _ _ _ _ _ _ H.out _).mono ?_
    rintro r w2 ⟨rfl, hb⟩
    have P2 := hide (P.out.next hb)
    clear hb c0 c1 c2 c3 c4 c5 c6 q
    by_cases hlt : (k : Int) < b * 2 * 2
    · obtain ⟨q, c0, c1, c2, c3, c4, c5, c6⟩ := P2.out.box
      go_wp2_with fail
      refine (line_yes _ _ _ _ _ _ _ _ H.out (by omega) hlt _).mono ?_
      rintro r w3 ⟨rfl, hb⟩
      have P3 := hide (P2.out.next hb)
      clear hb c0 c1 c2 c3 c4 c5 c6 q
      obtain ⟨q, c0, c1, c2, c3, c4, c5, c6⟩ := P3.out.box
      go_wp2_with fail
      refine (word_yes _ _ _ _ _ _ _ _ _ H.out (by omega) (by omega) (by omega) (by omega) _).mono ?_
      rintro r w4 ⟨hr, hb⟩
      obtain rfl : r = .returned (.tuple #[.int .i64 (k : Int), .int .i64 0]) := by rw [hr, show (k : Int) / 2 * 2 + (k : Int) % 2 = k by omega]
      have P4 := hide (P3.out.next hb)
      clear hb c0 c1 c2 c3 c4 c5 c6 q hr
      go_wp2
      go_roundw
      case rel => exact ⟨k + 1, by omega, by rw [show ((k + 1 : Nat) : Int) = k + 1 by omega], P4.out⟩
      case measure => simp [intOf]; omega
    · go_wp2_with fail
      obtain ⟨G, hG⟩ : ∃ G : Nat, g = G := ⟨g.toNat, by omega⟩
      have hG1 : 1 ≤ G := by omega
      have hG4 : G ≤ 4 := by omega
      have HG := hide hG
      have hnil := func_nil
      have B0 := hide (Pb.start HC.out P2.out)
      clear hz HC hG
      refine wp_loop (fun a' W => ∃ (v11 v12 v58 v59 v60 v61 v62 v63 v64 v65 v66 v67 v68 v69 : Value) (ds : List Deferred), OI w a b c d e f g G w2.heap.size v11 ds W ∧ a' = ({ tmps := #[Value.agg #[Value.int IntKind.i64 a, Value.int IntKind.i64 b, Value.int IntKind.i64 c, Value.int IntKind.i64 d, Value.int IntKind.i64 e, Value.int IntKind.i64 f, Value.int IntKind.i64 g], Value.pointer (some { block := w.heap.size, off := 0 }), Value.pointer (some { block := w.heap.size + 1, off := 0 }), Value.int IntKind.i64 ↑k, u4, u5, u6, u7, u8, Value.pointer (some { block := w2.heap.size, off := 0 }), Value.pointer (some { block := w2.heap.size + 1, off := 0 }), v11, v12, undef, undef, undef, undef, undef, undef, undef, undef, undef, undef, Value.agg #[Value.int IntKind.i64 a, Value.int IntKind.i64 b, Value.int IntKind.i64 c, Value.int IntKind.i64 d, Value.int IntKind.i64 e, Value.int IntKind.i64 f, Value.int IntKind.i64 g], Value.bool true, Value.bool false, undef, Value.int IntKind.i64 ↑k, Value.agg #[Value.int IntKind.i64 a, Value.int IntKind.i64 b, Value.int IntKind.i64 c, Value.int IntKind.i64 d, Value.int IntKind.i64 e, Value.int IntKind.i64 f, Value.int IntKind.i64 g], Value.int IntKind.i64 (b * 2 * 2), Value.bool (decide (↑k < b * 2 * 2)), u31, u32, u33, u34, u35, u36, u37, u38, u39, u40, u41, u42, u43, u44, u45, u46, u47, u48, u49, u50, u51, u52, u53, u54, u55, u56, u57, v58, v59, v60, v61, v62, v63, v64, v65, v66, v67, v68, v69, undef, undef, undef, undef, undef, undef, undef, undef, undef, undef, undef, undef, undef, undef, undef, undef, undef, undef, undef, undef, undef, undef, undef, undef, undef, undef, undef, undef, undef, undef, undef, undef, undef, undef, undef, undef, undef, undef, undef, undef, undef, undef, undef, undef, undef, undef, undef, undef, undef, undef, undef, undef, undef, undef, undef, undef, undef, undef, undef, undef, undef, undef, undef, undef, undef, undef, undef, undef, undef, undef, undef, undef, undef, undef, undef, undef, undef, undef, undef, undef, undef, undef, undef, undef, undef, undef, undef, undef, undef, undef, undef, undef, undef], defers := ds } : Act)) (fun a' _ => (b - intOf (a'.tmps.getD 11 undef)).toNat) ⟨_, _, _, _, _, _, _, _, _, _, _, _, _, _, [], ⟨0, [], fun _ => 0, 0, rfl, by omega, rfl, List.nodup_nil, by simp, rfl, fun j hj => (by
        show (0 : Int) = _
        rw [Nat.div_eq_of_lt (by omega)]; rfl), B0.out⟩, rfl⟩ ?_
      clear B0
      rintro _ W ⟨v11, v12, v58, v59, v60, v61, v62, v63, v64, v65, v66, v67, v68, v69, ds, ⟨k2, Ds, φ, s, rfl, hkb, rfl, hnd, hDs, hs, hc, hP⟩, rfl⟩
      dsimp only
      have PP := hide hP
      have HD := hide hDs
      have HC := hide hc
      have HS := hide hs
      have HN := hide hnd
      have hlt := hP.lt
      obtain ⟨q, c0, c1, c2, c3, c4, c5, c6⟩ := hP.p.box
      clear hP hDs hc hs hnd
      by_cases hkl : (k2 : Int) < b
      · go_wp2_with fail
        refine (linesOf_any _ _ _ _ _ _ _ _ _).mono ?_
        rintro r w3 ⟨rfl, rfl⟩
        go_wp2_with fail
        refine (wpIn_wide (n := 3)).1 ?_
        obtain ⟨W3, hW3⟩ : ∃ W3, (W.alloc (.cells #[.int .i64 a, .int .i64 b, .int .i64 c, .int .i64 d, .int .i64 e, .int .i64 f, .int .i64 g] 23)).alloc (.cells #[.int .i64 (k2 : Int)] 3) = W3 := ⟨_, rfl⟩
        have s3 : W3.heap.size = W.heap.size + 1 + 1 := by rw [← hW3]; simp
        have b3 : Below W.heap.size W W3 := by rw [← hW3]; exact ((Below.refl _ _).alloc (Nat.le_refl _) _).alloc (by simp) _
        have bx : Box W3 W.heap.size a b c d e f g := by rw [← hW3]; exact (Box.new W a b c d e f g 23).alloc _
        have cx : W3.cell? ⟨W.heap.size + 1, 0, none⟩ = some (.int .i64 (k2 : Int)) := by rw [← hW3]; simp [go_sem]
        have HQ := hide (lines_stopsK (Fr (fun i => i = w2.heap.size ∨ i = w2.heap.size + 1 ∨ W3.heap.size ≤ i)) a b c d e f g (k2 : Int) H.out (by omega) hkl (3 - 1) (by omega) W.heap.size (W.heap.size + 1) W3 (by omega) bx cx)
        have P3 := hide (PP.out.next b3)
        have D3 := hide (show ∀ D ∈ Ds, W3.heap[D]? = some (.deferred (some [])) from fun D hD => (b3.block D (Array.getElem?_eq_some_iff.1 (HD.out D hD).2).1).trans (HD.out D hD).2)
        rw [hW3]
        clear bx cx hW3 c0 c1 c2 c3 c4 c5 c6 q
        have dl := hide (show ∀ D ∈ Ds, D < W3.heap.size from fun D hD => by have := (Array.getElem?_eq_some_iff.1 (D3.out D hD)).1; exact this)
        refine rf_line 13 rfl HQ.out (fun i hi => .inr (.inr hi)) (Below.refl _ _) (IJ w a b c d e f g G w2.heap.size Ds k2) (fun pre W => pre ≠ [t0 k2] ∧ pre ≠ [t0 k2, t1 k2]) (IJ.own _ (by omega) dl.out) (fun s A B row hs hg hr => hs) ⟨0, φ, s, .inl ⟨rfl, rfl⟩, HS.out, HC.out, P3.out, D3.out⟩ ?assign ?body ?done ?stop
        case assign =>
          intro l pre v W K hi hK
          gi_wp2
          exact hK
        case body =>
          rintro l pre ⟨v, hv⟩ Wb hl ⟨rr, hrr⟩ ⟨m, φb, sb, hpre, hsb, hcb, hPb, hDb⟩ hlen
          have PB := hide hPb
          have DB := hide hDb
          have CB := hide hcb
          have bd := hide (Cnt.bd hG1 hG4 (show 2 * k2 + m ≤ 64 by rcases hpre with ⟨-, e⟩ | ⟨-, e⟩ | ⟨-, e⟩ <;> omega) hcb)
          have hse := hPb.se
          have hsf := hPb.sf
          have hrc := hPb.p.r
          have hrf := hPb.p.rf
          have hrl := hPb.p.lt
          have hml := hPb.lt
          obtain ⟨q, c0, c1, c2, c3, c4, c5, c6⟩ := hPb.p.box
          clear hPb hDb hcb hrr
          rcases hpre with ⟨rfl, rfl⟩ | ⟨rfl, rfl⟩ | ⟨rfl, rfl⟩
          · rcases hv with rfl | rfl
            · obtain ⟨j, hj⟩ : ∃ j : Nat, j = (2 * k2 + 0) % G := ⟨_, rfl⟩
              have hjG : j < G := by rw [hj]; exact Nat.mod_lt _ (by omega)
              have hjl : ((k2 : Int) * 2) % g = (j : Int) := by rw [hj, HG.out, Int.natCast_emod, show ((2 * k2 + 0 : Nat) : Int) = (k2 : Int) * 2 by omega]
              have hls : ((k2 : Int) * 2) = sb := by omega
              have HLS := hide hls
              have HJ := hide hj
              have HJL := hide hjl
              have l0 : 0 ≤ ((k2 : Int) * 2) := by omega
              have l1 : ((k2 : Int) * 2) < b * 2 := by omega
              have hne : (((k2 : Int) * 2) != sb) = false := by simp; omega
              have j0 : ¬ ((j : Int) < 0) := by omega
              have j1 : ¬ (g ≤ (j : Int)) := by have := HG.out; omega
              have j4 : j < 4 := by omega
              have j4i : (j : Int) < 4 := by omega
              clear hls hj hjl
              have HSB := hide hsb
              clear hsb
              gi_wp2_with fail
              refine ⟨trivial, ?_⟩
              refine (CallsIn.inRound l (callsIn_wide.2 (bank_yes _ _ _ _ _ _ _ _ H.out l0 l1 _))).mono ?_
              rintro r w1 ⟨hr, hb⟩
              obtain rfl : r = .returned (.tuple #[.int .i64 (j : Int), .int .i64 0]) := by rw [hr, HJL.out]
              have PB1 := hide (PB.out.next hb)
              have HB1 := hide hb
              have hse1 := PB1.out.se
              obtain ⟨q, d0, d1, d2, d3, d4, d5, d6⟩ := PB1.out.p.box
              clear hse hsf hrc hrf c0 c1 c2 c3 c4 c5 c6 hr hb
              gi_wp2_with fail
              gi_loopw [16] (fun v16 wz => ∃ i : Nat, i ≤ 2 ∧ v16 = .int .i64 i ∧ Pb w wz a b c d e f g w2.heap.size φb sb ∧ Below Wb.heap.size Wb wz) (fun v16 _ => 2 - (intOf v16).toNat)
              case atStart => exact ⟨0, by omega, rfl, PB1.out, HB1.out⟩
              case round =>
                obtain ⟨i, hi2, rfl, hPz, hBz⟩ := hrel
                have PZ := hide hPz
                have BZ := hide hBz
                have hsez := hPz.se
                have hsfz := hPz.sf
                have hbkz := hPz.bk j j4
                have hbfz := hPz.bf j j4
                have hltz := hPz.lt
                obtain ⟨qz, z0, z1, z2, z3, z4, z5, z6⟩ := hPz.p.box
                clear hPz hBz d0 d1 d2 d3 d4 d5 d6 hse1
                by_cases hi1 : i < 2
                · clear hbkz hbfz
                  gi_wp2_with fail
                  refine ⟨trivial, ?_⟩
                  refine (CallsIn.inRound l (callsIn_wide.2 (word_yes _ _ _ _ _ _ _ _ _ H.out l0 l1 (by omega) (by omega) _))).mono ?_
                  rintro r wy ⟨rfl, hb⟩
                  have PY := hide (PZ.out.next hb)
                  have BY := hide (below_step BZ.out BZ.out.size hb)
                  clear hb z0 z1 z2 z3 z4 z5 z6 qz hsez hsfz
                  obtain ⟨qy, z0, z1, z2, z3, z4, z5, z6⟩ := PY.out.p.box
                  gi_wp2_with fail
                  refine ⟨trivial, ?_⟩
                  refine (CallsIn.inRound l (callsIn_wide.2 (line_yes _ _ _ _ _ _ _ _ H.out (by omega) (by omega) _))).mono ?_
                  rintro r wx ⟨hr, hb⟩
                  obtain rfl : r = .returned (.tuple #[.int .i64 ((k2 : Int) * 2), .int .i64 (i : Int), .int .i64 0]) := by
                    rw [hr, show (((k2 : Int) * 2) * 2 + (i : Int)) / 2 = (k2 : Int) * 2 by omega, show (((k2 : Int) * 2) * 2 + (i : Int)) % 2 = i by omega]
                  have PX := hide (PY.out.next hb)
                  have BX := hide (below_step BY.out BY.out.size hb)
                  clear hb hr z0 z1 z2 z3 z4 z5 z6 qy
                  gi_wp2
                  go_roundw
                  case rel => exact ⟨i + 1, by omega, by rw [show ((i + 1 : Nat) : Int) = i + 1 by omega], PX.out, BX.out⟩
                  case measure => simp [intOf]; omega
                · obtain ⟨bd0, bd1, -, -⟩ := bd.out j hjG
                  have sb1 : 0 ≤ sb := by have := HSB.out; omega
                  have sb2 : sb ≤ 64 := by have := HSB.out; omega
                  clear z0 z1 z2 z3 z4 z5 z6 qz
                  gi_wp2
                  refine ⟨(((keepsOthers_of_below BZ.out).trans (KeepsOthers.setCell _ _ _)).trans (KeepsOthers.setCell _ _ _)).from _, ((Fr.of_below BZ.out).setCell (p := ⟨w2.heap.size, j, none⟩) (fun _ => .inl rfl) _).setCell (p := ⟨w2.heap.size + 1, 0, none⟩) (fun _ => .inr (.inl rfl)) _,
                    1, upd φb j (φb j + 1), sb + 1, by simp [t0, t1], by have := HSB.out; omega, ?_, (PZ.out.setb j (φb j + 1) j4).sets (sb + 1), fun D hD => ?_⟩
                  · have := CB.out.step hG1 hG4
                    rw [← HJ.out] at this
                    exact this
                  · have hx := DB.out D hD
                    have hm := (HD.out D hD).1
                    have k1 := (BZ.out.block D (Array.getElem?_eq_some_iff.1 hx).1).trans hx
                    exact (Below.heap_setCell _ ⟨w2.heap.size + 1, 0, none⟩ _ D (by show ¬ _ = _; simp; omega)).trans ((Below.heap_setCell _ ⟨w2.heap.size, j, none⟩ _ D (by show ¬ _ = _; simp; omega)).trans k1)
            · have hne : (((k2 : Int) * 2 + 1) != sb) = true := by simp; omega
              have hng : ¬ (((k2 : Int) * 2 + 1) = sb) := by omega
              have hj0 : 0 ≤ ((k2 : Int) * 2 + 1) % g := Int.emod_nonneg _ (by omega)
              have hj1 : ((k2 : Int) * 2 + 1) % g < g := Int.emod_lt_of_pos _ (by omega)
              have hj2 : decide (g ≤ ((k2 : Int) * 2 + 1) % g) = false := by simp; omega
              have HSB := hide hsb
              clear hsb
              gi_wp2_with fail
              refine ⟨trivial, ?_⟩
              refine (CallsIn.inRound l (callsIn_wide.2 (bank_yes _ _ _ _ _ _ _ _ H.out (by omega) (by omega) _))).mono ?_
              rintro r w1 ⟨rfl, hb⟩
              have PB1 := hide (PB.out.next hb)
              have hse1 := PB1.out.se
              have hrc1 := PB1.out.p.r
              have hrf1 := PB1.out.p.rf
              have hrl1 := PB1.out.p.lt
              obtain ⟨q, d0, d1, d2, d3, d4, d5, d6⟩ := PB1.out.p.box
              clear hse hsf hrc hrf c0 c1 c2 c3 c4 c5 c6
              gi_wp2
              exact ⟨((keepsOthers_of_below hb).trans (KeepsOthers.setCell _ _ _)).from _, by simp [t0, t1] <;> omega, by simp [t0, t1] <;> omega⟩
          · rcases hv with rfl | rfl
            · have hne : (((k2 : Int) * 2) != sb) = true := by simp; omega
              have hng : ¬ (((k2 : Int) * 2) = sb) := by omega
              have hj0 : 0 ≤ ((k2 : Int) * 2) % g := Int.emod_nonneg _ (by omega)
              have hj1 : ((k2 : Int) * 2) % g < g := Int.emod_lt_of_pos _ (by omega)
              have hj2 : decide (g ≤ ((k2 : Int) * 2) % g) = false := by simp; omega
              have HSB := hide hsb
              clear hsb
              gi_wp2_with fail
              refine ⟨trivial, ?_⟩
              refine (CallsIn.inRound l (callsIn_wide.2 (bank_yes _ _ _ _ _ _ _ _ H.out (by omega) (by omega) _))).mono ?_
              rintro r w1 ⟨rfl, hb⟩
              have PB1 := hide (PB.out.next hb)
              have hse1 := PB1.out.se
              have hrc1 := PB1.out.p.r
              have hrf1 := PB1.out.p.rf
              have hrl1 := PB1.out.p.lt
              obtain ⟨q, d0, d1, d2, d3, d4, d5, d6⟩ := PB1.out.p.box
              clear hse hsf hrc hrf c0 c1 c2 c3 c4 c5 c6
              gi_wp2
              exact ⟨((keepsOthers_of_below hb).trans (KeepsOthers.setCell _ _ _)).from _, by simp [t0, t1] <;> omega, by simp [t0, t1] <;> omega⟩
            · obtain ⟨j, hj⟩ : ∃ j : Nat, j = (2 * k2 + 1) % G := ⟨_, rfl⟩
              have hjG : j < G := by rw [hj]; exact Nat.mod_lt _ (by omega)
              have hjl : ((k2 : Int) * 2 + 1) % g = (j : Int) := by rw [hj, HG.out, Int.natCast_emod, show ((2 * k2 + 1 : Nat) : Int) = (k2 : Int) * 2 + 1 by omega]
              have hls : ((k2 : Int) * 2 + 1) = sb := by omega
              have HLS := hide hls
              have HJ := hide hj
              have HJL := hide hjl
              have l0 : 0 ≤ ((k2 : Int) * 2 + 1) := by omega
              have l1 : ((k2 : Int) * 2 + 1) < b * 2 := by omega
              have hne : (((k2 : Int) * 2 + 1) != sb) = false := by simp; omega
              have j0 : ¬ ((j : Int) < 0) := by omega
              have j1 : ¬ (g ≤ (j : Int)) := by have := HG.out; omega
              have j4 : j < 4 := by omega
              have j4i : (j : Int) < 4 := by omega
              clear hls hj hjl
              have HSB := hide hsb
              clear hsb
              gi_wp2_with fail
              refine ⟨trivial, ?_⟩
              refine (CallsIn.inRound l (callsIn_wide.2 (bank_yes _ _ _ _ _ _ _ _ H.out l0 l1 _))).mono ?_
              rintro r w1 ⟨hr, hb⟩
              obtain rfl : r = .returned (.tuple #[.int .i64 (j : Int), .int .i64 0]) := by rw [hr, HJL.out]
              have PB1 := hide (PB.out.next hb)
              have HB1 := hide hb
              have hse1 := PB1.out.se
              obtain ⟨q, d0, d1, d2, d3, d4, d5, d6⟩ := PB1.out.p.box
              clear hse hsf hrc hrf c0 c1 c2 c3 c4 c5 c6 hr hb
              gi_wp2_with fail
              gi_loopw [16] (fun v16 wz => ∃ i : Nat, i ≤ 2 ∧ v16 = .int .i64 i ∧ Pb w wz a b c d e f g w2.heap.size φb sb ∧ Below Wb.heap.size Wb wz) (fun v16 _ => 2 - (intOf v16).toNat)
              case atStart => exact ⟨0, by omega, rfl, PB1.out, HB1.out⟩
              case round =>
                obtain ⟨i, hi2, rfl, hPz, hBz⟩ := hrel
                have PZ := hide hPz
                have BZ := hide hBz
                have hsez := hPz.se
                have hsfz := hPz.sf
                have hbkz := hPz.bk j j4
                have hbfz := hPz.bf j j4
                have hltz := hPz.lt
                obtain ⟨qz, z0, z1, z2, z3, z4, z5, z6⟩ := hPz.p.box
                clear hPz hBz d0 d1 d2 d3 d4 d5 d6 hse1
                by_cases hi1 : i < 2
                · clear hbkz hbfz
                  gi_wp2_with fail
                  refine ⟨trivial, ?_⟩
                  refine (CallsIn.inRound l (callsIn_wide.2 (word_yes _ _ _ _ _ _ _ _ _ H.out l0 l1 (by omega) (by omega) _))).mono ?_
                  rintro r wy ⟨rfl, hb⟩
                  have PY := hide (PZ.out.next hb)
                  have BY := hide (below_step BZ.out BZ.out.size hb)
                  clear hb z0 z1 z2 z3 z4 z5 z6 qz hsez hsfz
                  obtain ⟨qy, z0, z1, z2, z3, z4, z5, z6⟩ := PY.out.p.box
                  gi_wp2_with fail
                  refine ⟨trivial, ?_⟩
                  refine (CallsIn.inRound l (callsIn_wide.2 (line_yes _ _ _ _ _ _ _ _ H.out (by omega) (by omega) _))).mono ?_
                  rintro r wx ⟨hr, hb⟩
                  obtain rfl : r = .returned (.tuple #[.int .i64 ((k2 : Int) * 2 + 1), .int .i64 (i : Int), .int .i64 0]) := by
                    rw [hr, show (((k2 : Int) * 2 + 1) * 2 + (i : Int)) / 2 = (k2 : Int) * 2 + 1 by omega, show (((k2 : Int) * 2 + 1) * 2 + (i : Int)) % 2 = i by omega]
                  have PX := hide (PY.out.next hb)
                  have BX := hide (below_step BY.out BY.out.size hb)
                  clear hb hr z0 z1 z2 z3 z4 z5 z6 qy
                  gi_wp2
                  go_roundw
                  case rel => exact ⟨i + 1, by omega, by rw [show ((i + 1 : Nat) : Int) = i + 1 by omega], PX.out, BX.out⟩
                  case measure => simp [intOf]; omega
                · obtain ⟨bd0, bd1, -, -⟩ := bd.out j hjG
                  have sb1 : 0 ≤ sb := by have := HSB.out; omega
                  have sb2 : sb ≤ 64 := by have := HSB.out; omega
                  clear z0 z1 z2 z3 z4 z5 z6 qz
                  gi_wp2
                  refine ⟨(((keepsOthers_of_below BZ.out).trans (KeepsOthers.setCell _ _ _)).trans (KeepsOthers.setCell _ _ _)).from _, ((Fr.of_below BZ.out).setCell (p := ⟨w2.heap.size, j, none⟩) (fun _ => .inl rfl) _).setCell (p := ⟨w2.heap.size + 1, 0, none⟩) (fun _ => .inr (.inl rfl)) _,
                    2, upd φb j (φb j + 1), sb + 1, by simp [t0, t1], by have := HSB.out; omega, ?_, (PZ.out.setb j (φb j + 1) j4).sets (sb + 1), fun D hD => ?_⟩
                  · have := CB.out.step hG1 hG4
                    rw [← HJ.out] at this
                    exact this
                  · have hx := DB.out D hD
                    have hm := (HD.out D hD).1
                    have k1 := (BZ.out.block D (Array.getElem?_eq_some_iff.1 hx).1).trans hx
                    exact (Below.heap_setCell _ ⟨w2.heap.size + 1, 0, none⟩ _ D (by show ¬ _ = _; simp; omega)).trans ((Below.heap_setCell _ ⟨w2.heap.size, j, none⟩ _ D (by show ¬ _ = _; simp; omega)).trans k1)
          · simp at hlen
        case done =>
          rintro D W4 hD ⟨m, φ4, s4, hpre, hs4, hc4, hP4, hD4⟩ hK
          have hm : m = 2 := by
            rcases hpre with ⟨e, -⟩ | ⟨e, -⟩ | ⟨-, e⟩
            · simp at e
            · simp at e
            · exact e
          subst hm
          have HP4 := hide hP4
          have HD4 := hide hD4
          have HC4 := hide hc4
          have HS4 := hide hs4
          have HK := hide hK
          clear hP4 hD4 hc4 hs4 hK hpre
          dsimp only
          go_wp2
          refine ⟨⟨_, _, _, _, _, _, _, _, _, _, _, _, _, _, _, ⟨k2 + 1, D :: Ds, φ4, s4, (by rw [show ((k2 + 1 : Nat) : Int) = k2 + 1 by omega]), by omega, rfl, List.nodup_cons.2 ⟨fun e => by have := dl.out D e; omega, HN.out⟩, fun E hE => ?_, HS4.out, HC4.out, HP4.out⟩, rfl⟩, ?_⟩
          · rcases List.mem_cons.1 hE with e | e
            · subst e; exact ⟨by omega, HK.out⟩
            · exact ⟨(HD.out E e).1, HD4.out E e⟩
          · simp [intOf]; omega
        case stop =>
          rintro D c pre W _ hp hs _
          rcases hp with rfl | rfl
          · exact absurd rfl hs.1
          · exact absurd rfl hs.2
      · have LW := hide (show Ls w W a b c d e f g w2.heap.size φ s Ds from ⟨PP.out.p.box, ⟨_, PP.out.p.r⟩, PP.out.p.rf, PP.out.p.lt, PP.out.bk, PP.out.se, PP.out.hM, PP.out.lt, PP.out.p.bel, fun D hD => (HD.out D hD).2, fun D hD => by have := (HD.out D hD).1; have := PP.out.hM; omega⟩)
        have hsb : (s == b * 2) = true := by have := HS.out; simp; omega
        have bd := hide (Cnt.bd hG1 hG4 (show 2 * k2 ≤ 64 by omega) HC.out)
        have HSB := hide hsb
        clear hsb
        go_wp2_with fail
        go_loopw [22] (fun v22 wz => ∃ i : Nat, i ≤ G ∧ v22 = .int .i64 i ∧ Ls w wz a b c d e f g w2.heap.size φ s Ds) (fun v22 _ => G - (intOf v22).toNat)
        case atStart => exact ⟨0, Nat.zero_le _, rfl, LW.out⟩
        case round =>
          obtain ⟨i, hiG, rfl, hLz⟩ := hrel
          have LZ := hide hLz
          obtain ⟨qz, z0, z1, z2, z3, z4, z5, z6⟩ := hLz.box
          have hgi : g = (G : Int) := HG.out
          have hgl : ∀ z : Int, (z < g) = (z < (G : Int)) := fun z => by rw [hgi]
          by_cases hi1 : i < G
          · have i4 : i < 4 := by omega
            have i4i : (i : Int) < 4 := by omega
            have ig : (i : Int) < g := by omega
            have y0 := hLz.bk 0 (by omega)
            have y1 := hLz.bk i i4
            obtain ⟨bd0, bd1, bd2, bd3⟩ := bd.out i hi1
            obtain ⟨be0, be1, -, -⟩ := bd.out 0 (by omega)
            have e1 : IntKind.i64.wrap (φ 0 - 1) = φ 0 - 1 := IntWalk.i64_in _ (by omega)
            have e2 : decide (φ i < φ 0 - 1) = false := by simp; omega
            have e3 : decide (φ 0 < φ i) = false := by simp; omega
            clear hLz c0 c1 c2 c3 c4 c5 c6 q hgi hgl
            go_wp2_with fail
            go_quiet (fail)
            go_wp2
            go_roundw
            case rel => exact ⟨i + 1, by omega, by rw [show ((i + 1 : Nat) : Int) = i + 1 by omega], LZ.out.next (below_drewN (Below.refl _ _) _)⟩
            case measure => simp [intOf]; omega
          · have ig : ¬ ((i : Int) < g) := by omega
            clear hLz c0 c1 c2 c3 c4 c5 c6 q hgi hgl
            go_wp2_with fail
            have hsb := HSB.out
            refine wp_mono (Q := RQ w a b c d e f g w2.heap.size φ s Ds) ?_ ?_
            rotate_left
            · intro ex a' W' hq
              cases ex with
              | normal =>
                obtain ⟨g2, gd, hLF, hc0⟩ := hq
                obtain ⟨t, ds⟩ := a'
                dsimp only at g2 gd
                subst gd
                have LF := hide hLF
                have HC0 := hide hc0
                clear hLF hc0
                go_wp2
                refine leaves_ds Ds _ HN.out LF.out.ds (fun W'' k => ?_)
                have hc := (k.cell (p := w.heap.size + 1) (o := 0) LF.out.lt (fun e => by have := LF.out.lo _ e; omega)).trans HC0.out
                have g3 : t[2]?.getD undef = .pointer (some ⟨w.heap.size + 1, 0, none⟩) := by rw [← g2]; simp [Array.getD_eq_getD_getElem?]
                exact ⟨.bool true, by simp [results, Try.f6, go_sem, hc, g3], rfl, LF.out.bel.trans (k.below LF.out.bel.size (fun i hi e => by have := LF.out.lo _ e; omega))⟩
              | _ => exact hq.elim
            refine wp_region_held_drew (S := fun W' => (W'.cell? ⟨w.heap.size, 0, none⟩ = some (.int .i64 a) ∧ W'.cell? ⟨w.heap.size, 1, none⟩ = some (.int .i64 b) ∧ W'.cell? ⟨w.heap.size, 2, none⟩ = some (.int .i64 c) ∧ W'.cell? ⟨w.heap.size, 3, none⟩ = some (.int .i64 d) ∧ W'.cell? ⟨w.heap.size, 4, none⟩ = some (.int .i64 e) ∧ W'.cell? ⟨w.heap.size, 5, none⟩ = some (.int .i64 f) ∧ W'.cell? ⟨w.heap.size, 6, none⟩ = some (.int .i64 g) ∧ W'.cell? ⟨w2.heap.size + 1, 0, none⟩ = some (.int .i64 s)) ∧ Ls w W' a b c d e f g w2.heap.size φ s Ds) (by kernel_rfl) ?_ (fun hHeld => ?_)
            · exact (LZ.out.next (below_drew0 (Below.refl _ _))).both
            refine wpAnyH_take (i := 0) (v := ?_) rfl (by kernel_rfl) (by kernel_rfl) (by kernel_rfl) (fun _ _ _ h => h) (Or.inl ⟨by rfl, ?_⟩) hHeld ?_
            rotate_left
            · intro w' hSw
              try dsimp only at hSw
              go_simp
              all_goals with_reducible rfl
            try simp only [List.getElem_toArray, List.getElem_cons_zero, Act.put, List.setIfInBounds_toArray, List.set_cons_zero, List.set_cons_succ]
            refine wpAnyH_take (i := 1) (v := ?_) rfl (by kernel_rfl) (by kernel_rfl) (by kernel_rfl) (fun _ _ _ h => h) (Or.inl ⟨by rfl, ?_⟩) hHeld ?_
            rotate_left
            · intro w' hSw
              try dsimp only at hSw
              go_simp
              all_goals with_reducible rfl
            try simp only [List.getElem_toArray, List.getElem_cons_succ, List.getElem_cons_zero, Act.put, List.setIfInBounds_toArray, List.set_cons_zero, List.set_cons_succ]
            refine wpAnyH_ready (rs := [2]) (by kernel_rfl) (by simp) ?_
            refine AllReadyH.cons rfl (fun K hK => ?_) AllReadyH.nil
            go_simp
            refine (lines_yes _ _ _ _ _ _ _ H.out _).mono ?_
            rintro r w8 ⟨rfl, hb⟩
            refine hK.out _ _ ?_ (fun hHeld => ?_)
            · (try dsimp only)
              exact (hHeld.2.next hb).both
            clear hK K
            refine wpAnyH_take (i := 3) (v := ?_) rfl (by kernel_rfl) (by kernel_rfl) (by kernel_rfl) (fun _ _ _ h => h) (Or.inl ⟨by rfl, ?_⟩) hHeld ?_
            rotate_left
            · intro w' hSw
              try dsimp only at hSw
              go_simp
              all_goals with_reducible rfl
            try simp only [List.getElem_toArray, List.getElem_cons_succ, List.getElem_cons_zero, Act.put, List.setIfInBounds_toArray, List.set_cons_zero, List.set_cons_succ]
            refine wpAnyH_take (i := 4) (v := ?_) rfl (by kernel_rfl) (by kernel_rfl) (by kernel_rfl) (fun _ _ _ h => h) (Or.inl ⟨by rfl, ?_⟩) hHeld ?_
            rotate_left
            · intro w' hSw
              try dsimp only at hSw
              go_simp
              all_goals with_reducible rfl
            try simp only [List.getElem_toArray, List.getElem_cons_succ, List.getElem_cons_zero, Act.put, List.setIfInBounds_toArray, List.set_cons_zero, List.set_cons_succ]
            refine wpAnyH_ready (rs := [5]) (by kernel_rfl) (by simp) ?_
            refine AllReadyH.cons rfl (fun K hK => ?_) AllReadyH.nil
            go_simp
            refine (awake_ok _).mono ?_
            rintro r w9 ⟨rfl, hb⟩
            refine hK.out _ _ ?_ (fun hHeld => ?_)
            · (try dsimp only)
              exact (hHeld.2.next hb).both
            clear hK K
            refine wpAnyH_take (i := 6) (v := ?_) rfl (by kernel_rfl) (by kernel_rfl) (by kernel_rfl) (fun _ _ _ h => h) (Or.inl ⟨by rfl, ?_⟩) hHeld ?_
            rotate_left
            · intro w' hSw
              try dsimp only at hSw
              go_simp
              all_goals with_reducible rfl
            try simp only [List.getElem_toArray, List.getElem_cons_succ, List.getElem_cons_zero, Act.put, List.setIfInBounds_toArray, List.set_cons_zero, List.set_cons_succ]
            obtain ⟨vR, q1⟩ := hHeld.2.r
            have q2 := hHeld.2.rf
            refine wpAnyH_ready (rs := [7]) (by kernel_rfl) (by simp) ?_
            refine AllReadyH.cons rfl (fun K hK => ?_) AllReadyH.nil
            go_simp
            refine hK.out _ _ ?_ (fun hHeld2 => ?_)
            · (try dsimp only)
              exact (hHeld.2.setr (.bool true)).both
            clear hK K
            refine wpAnyH_done (by kernel_rfl) ?_ _
            exact ⟨rfl, rfl, hHeld2.2, World.cell?_setCell_same' _ _ _ (by rw [q1]; rfl)⟩
theorem back_no (a b c d e f g : Int) (h : ¬ Ok a b c d e f g) (w : World) : Calls Try.prog 6 #[.agg #[.int .i64 a, .int .i64 b, .int .i64 c, .int .i64 d, .int .i64 e, .int .i64 f, .int .i64 g]] w fun r w' => r = .returned (.bool true) ∧ Below w.heap.size w w' := by
  have H := hide h
  have S0 := hide (P0.start w a b c d e f g)
  obtain ⟨q, c0, c1, c2, c3, c4, c5, c6⟩ := S0.out.box
  clear h
  go_enter Try.func6, Try.ntmps6
  go_wp2_with fail
  refine (may_no _ _ _ _ _ _ _ H.out _).mono ?_
  rintro r w1 ⟨rfl, hb⟩
  have S1 := hide (S0.out.next hb)
  clear hb c0 c1 c2 c3 c4 c5 c6 q S0
  go_wp2_with fail
  refine (awake_ok _).mono ?_
  rintro r w2 ⟨rfl, hb⟩
  have S2 := S1.out.next hb
  have cr := S2.r
  have crf := S2.rf
  have bel := S2.bel
  clear hb S2
  go_wp2
  have hc : (w2.setCell ⟨w.heap.size + 1, 0, none⟩ (.bool true)).cell? ⟨w.heap.size + 1, 0, none⟩ = some (.bool true) := World.cell?_setCell_same' _ _ _ (by rw [cr]; rfl)
  exact bodyPost_ret (v := .bool true) (by simp [results, Try.f6, go_sem, hc]) rfl ⟨rfl, bel.setCell (by show w.heap.size ≤ w.heap.size + 1; omega) _⟩
theorem back_law (a b c d e f g : Int) (w : World) : Calls Try.prog 6 #[.agg #[.int .i64 a, .int .i64 b, .int .i64 c, .int .i64 d, .int .i64 e, .int .i64 f, .int .i64 g]] w fun r w' => r = .returned (.bool true) ∧ Below w.heap.size w w' := by
  by_cases h : Ok a b c d e f g
  · exact back_in a b c d e f g h w
  · exact back_no a b c d e f g h w
end Go.Proofs.Ytgdbjkkhmamdmaa
