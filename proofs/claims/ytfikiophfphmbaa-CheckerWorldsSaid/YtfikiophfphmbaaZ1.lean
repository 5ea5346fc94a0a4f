/- CheckerWorlds, walked. -/
import Derived.Test.YtfikiophfphmbaaY3
import Derived.Test.YtfikiophfphmbaaZ0
import Derived.Test.YtfikiophfphmbaaE1
import Derived.WalkKit
import Derived.WalkSpells
import Derived.ProofKit
import Derived.Outline
import Derived.Handy
import Derived.RowKit3
import Derived.BigQuiet
import Derived.Deep.QuietTactic
import Derived.Deep.RegionHeld3
import Derived.Deep.Draws
import Derived.Deep.RegionLaw
import Derived.RegionTactic
import Derived.BigRegion
import Derived.IntWalk
import Derived.LoopTactic
import Derived.OwnWalk
import Derived.Laws.AppendOwn
import Derived.Laws.OwnMore
import Derived.Laws.MakeOwn
import Derived.Laws.Pointers
import Derived.Maps.AppendAt
import Derived.Deep.AppendLies
import Derived.Below
namespace Go.Proofs.Ytfikiophfphmbaa
open Go.RowKit
set_option linter.unusedVariables false
set_option maxRecDepth 100000

theorem mayb (a b : Int) (v : Bool) (hv : decide (1 ≤ a ∧ a ≤ 8 ∧ 1 ≤ b ∧ b ≤ 16) = v) (w : World) : Calls Try.prog 7 #[.int .i64 a, .int .i64 b] w fun r w' => r = .returned (.bool v) ∧ w = w' := by
  subst hv
  by_cases h1 : 1 ≤ a <;> by_cases h2 : a ≤ 8 <;> by_cases h3 : 1 ≤ b <;> by_cases h4 : b ≤ 16
  all_goals
    go_enter Try.func7, Try.ntmps7
    go_wp2
    go_ret
    exact ⟨ret_bool (by simp [h1, h2, h3, h4]), rfl⟩
theorem fewb (av : Option Addr) (L c : Nat) (v : Bool) (hv : decide (L ≤ 80) = v) (w : World) : Calls Try.prog 19 #[.slice av L c] w fun r w' => r = .returned (.bool v) ∧ w = w' := by
  subst hv
  go_enter Try.func19, Try.ntmps19
  go_wp2
  go_ret
  exact ⟨ret_bool (by rw [decide_eq_decide]; omega), rfl⟩
theorem OpsIn.next {w w' : World} {av : Option Addr} {L : Nat} {A B C D : Nat → Int} (h : OpsIn w av L A B C D) (hb : Below w.heap.size w w') : OpsIn w' av L A B C D := by
  rcases h with h | ⟨b, off, h1, h2, h3⟩
  · exact .inl h
  · exact .inr ⟨b, off, h1, Nat.lt_of_lt_of_le h2 hb.size, fun i hi => ⟨cell_next hb h2 (h3 i hi).1, cell_next hb h2 (h3 i hi).2.1, cell_next hb h2 (h3 i hi).2.2.1, cell_next hb h2 (h3 i hi).2.2.2⟩⟩
section
variable {w0 w w' : World} {P en gs R n : Nat} {ws st rst : Bool} {gr at_ wk ra : Int} {v G O : Value} {ks : List (Int × Int)}
/-- The granule is forgotten: what Drop of one answers. -/
def DropG (P en gs : Nat) (v : Value) (g : Int) (m : Int) (w : World) (r : Ending) (w' : World) : Prop := r = .returned (.tuple #[.int .i64 m, .int .i64 0]) ∧ ∃ ws st gr at_ v' ks, Ck w' P ws st gr at_ en gs v' ks ∧ (∀ x ∈ ks, x.1 ≠ g) ∧ Fr (Ck.S P v) w w'
theorem erase_gone {ks : List (Int × Int)} {g o : Int} {j : Nat} (h1 : ks[j]? = some (g, o)) (h2 : ∀ i x, i < j → ks[i]? = some x → x.1 ≠ g) (h3 : ∀ i x, j < i → ks[i]? = some x → x.1 ≠ g) : ∀ x ∈ ks.eraseIdx j, x.1 ≠ g := by
  intro x hx
  obtain ⟨i, hi⟩ := List.mem_iff_getElem?.1 hx
  rw [List.getElem?_eraseIdx] at hi
  split at hi
  · exact h2 i x (by omega) hi
  · exact h3 (i + 1) x (by omega) hi
theorem drop_yes_g (g : Nat) (o : Int) (j : Nat) (hg : g < gs) (h1 : ks[j]? = some ((g : Int), o)) (h2 : ∀ i x, i < j → ks[i]? = some x → x.1 ≠ (g : Int)) (w : World) (h : Ck w P ws st gr at_ en gs v ks) (i : Inv gs ws gr ks) : Calls Try.prog 12 #[.pointer (some ⟨P, 0, none⟩), .int .i64 g] w (DropG P en gs v g 1 w) := by
  have h3 := i.later h1
  cases ws
  · exact (drop_still_yes w g hg j o h1 h2 h3 h).mono fun r w' ⟨e, v', k, f, s⟩ => ⟨e, _, _, _, _, _, _, k, erase_gone h1 h2 h3, f⟩
  · have hgr : gr ≠ (g : Int) := by
      intro e
      obtain ⟨g', e1, e2, e3⟩ := i.w rfl
      exact e3 _ (List.mem_of_getElem? h1) (e.symm.trans e1)
    exact (drop_other_yes w g hgr hg j o h1 h2 h3 h).mono fun r w' ⟨e, v', k, f, s⟩ => ⟨e, _, _, _, _, _, _, k, erase_gone h1 h2 h3, f⟩
theorem drop_no_g (g : Nat) (hg : g < gs) (hno : ∀ x ∈ ks, x.1 ≠ (g : Int)) (w : World) (h : Ck w P ws st gr at_ en gs v ks) (i : Inv gs ws gr ks) : Calls Try.prog 12 #[.pointer (some ⟨P, 0, none⟩), .int .i64 g] w (DropG P en gs v g 0 w) := by
  cases ws
  · exact (drop_still w g hg hno h).mono fun r w' ⟨e, k, f⟩ => ⟨e, _, _, _, _, _, _, k, hno, f.mono (fun _ _ e => .inl e)⟩
  · by_cases hgr : gr = (g : Int)
    · subst hgr
      exact (drop_walk w g hg hno h).mono fun r w' ⟨e, k, f⟩ => ⟨e, _, _, _, _, _, _, k, hno, f.mono (fun _ _ e => .inl e)⟩
    · exact (drop_other w g hgr hg hno h).mono fun r w' ⟨e, k, f⟩ => ⟨e, _, _, _, _, _, _, k, hno, f.mono (fun _ _ e => .inl e)⟩
end
theorem tw_new {w w1 w2 : World} {P R en gs : Nat} (h1 : Ck w1 P false false 0 0 en gs (.slice none 0 0) []) (b2 : Below w1.heap.size w1 w2) (h2 : Rk w2 R en gs (.slice none 0 0) (.slice none 0 0) 0 (-1) 0 false) (hP : w.heap.size ≤ P) (hR : w1.heap.size ≤ R) (B2 : Below w.heap.size w w2) : TwE w w2 P en gs R := by
  have hPl := h1.hP
  refine ⟨_, _, _, _, _, _, _, _, _, _, _, _, h1.next b2, ⟨fun e => (by cases e), List.Pairwise.nil, fun x hx => by cases hx⟩, h2, ?_, ?_, ?_, B2⟩
  · intro b e e2
    rcases e with rfl | e
    · rcases e2 with e2 | e2 | e2
      · omega
      · cases e2
      · cases e2
    · cases e
  · intro b e
    rcases e with rfl | e
    · exact hP
    · cases e
  · intro b e
    rcases e with rfl | e | e
    · omega
    · cases e
    · cases e
def hitsN (o : Int) : Nat → Nat
  | 0 => 0
  | k + 1 => hitsN o k + if (k : Int) = 0 ∨ o = k ∨ o = 4 then 1 else 0
theorem hits_le (o : Int) (k : Nat) : hitsN o k ≤ k := by
  induction k with
  | zero => exact Nat.le_refl _
  | succ k ih => unfold hitsN; split <;> omega
theorem hits_4 (o : Int) (h0 : 0 ≤ o) (h4 : o ≤ 4) : hitsN o 4 = 1 ∨ hitsN o 4 = 2 ∨ hitsN o 4 = 4 := by
  have : o = 0 ∨ o = 1 ∨ o = 2 ∨ o = 3 ∨ o = 4 := by omega
  rcases this with rfl | rfl | rfl | rfl | rfl <;> decide
def LRel (w : World) (P R en gs L : Nat) (v10 : Value) (wr : World) : Prop := ∃ k : Nat, k ≤ L ∧ v10 = .int .i64 k ∧ TwE w wr P en gs R
def MissRel (w : World) (v11 v12 v13 : Value) (wr : World) : Prop := ∃ k : Nat, k ≤ 4 ∧ v13 = .int .i64 k ∧ v11 = .int .i64 0 ∧ v12 = .int .i64 k ∧ Below w.heap.size w wr
def HitRel (o : Int) (w : World) (v11 v12 v13 : Value) (wr : World) : Prop := ∃ k : Nat, k ≤ 4 ∧ v13 = .int .i64 k ∧ v11 = .int .i64 (hitsN o k) ∧ v12 = .int .i64 0 ∧ Below w.heap.size w wr
def EndRel (w : World) (v18 : Value) (wr : World) : Prop := ∃ k : Nat, k ≤ 4 ∧ v18 = .int .i64 k ∧ Below w.heap.size w wr
set_option maxHeartbeats 4000000 in
theorem worlds_out (a b : Int) (av : Option Addr) (L c : Nat) (hL : L ≤ maxLen) (g : Int) (h : ¬ ((1 ≤ a ∧ a ≤ 8 ∧ 1 ≤ b ∧ b ≤ 16) ∧ L ≤ 80 ∧ 0 ≤ g ∧ g < b)) (w : World) : Calls Try.prog 6 #[.agg #[.int .i64 a, .int .i64 b], .slice av L c, .int .i64 g] w fun r w' => r = .returned (.bool true) ∧ Below w.heap.size w w' := by
  by_cases h1 : 1 ≤ a ∧ a ≤ 8 ∧ 1 ≤ b ∧ b ≤ 16
  · have hm := hide (decide_eq_true h1)
    by_cases h2 : L ≤ 80
    · have hf := hide (decide_eq_true h2)
      by_cases h3 : g < 0
      · clear h h1 h2
        go_enter Try.func6, Try.ntmps6
        go_wp2_with fail
        refine (mayb a b true hm.out _).mono ?_
        rintro r w1 ⟨rfl, rfl⟩
        go_wp2_with fail
        refine (fewb av L c true hf.out _).mono ?_
        rintro r w1 ⟨rfl, rfl⟩
        go_wp2_with fail
        refine (awake_ok _).mono ?_
        rintro r w1 ⟨rfl, hb⟩
        go_wp2
        go_ret
        exact ⟨rfl, below_alloc hb⟩
      · have h4 : b ≤ g := by omega
        have h5 : 0 ≤ g := by omega
        clear h h1 h2 h3
        go_enter Try.func6, Try.ntmps6
        go_wp2_with fail
        refine (mayb a b true hm.out _).mono ?_
        rintro r w1 ⟨rfl, rfl⟩
        go_wp2_with fail
        refine (fewb av L c true hf.out _).mono ?_
        rintro r w1 ⟨rfl, rfl⟩
        go_wp2_with fail
        refine (awake_ok _).mono ?_
        rintro r w1 ⟨rfl, hb⟩
        go_wp2
        go_ret
        exact ⟨rfl, below_alloc hb⟩
    · have hf := hide (decide_eq_false h2)
      clear h h1 h2
      go_enter Try.func6, Try.ntmps6
      go_wp2_with fail
      refine (mayb a b true hm.out _).mono ?_
      rintro r w1 ⟨rfl, rfl⟩
      go_wp2_with fail
      refine (fewb av L c false hf.out _).mono ?_
      rintro r w1 ⟨rfl, rfl⟩
      go_wp2_with fail
      refine (awake_ok _).mono ?_
      rintro r w1 ⟨rfl, hb⟩
      go_wp2
      go_ret
      exact ⟨rfl, below_alloc hb⟩
  · have hm := hide (decide_eq_false h1)
    clear h h1
    go_enter Try.func6, Try.ntmps6
    go_wp2_with fail
    refine (mayb a b false hm.out _).mono ?_
    rintro r w1 ⟨rfl, rfl⟩
    go_wp2_with fail
    refine (awake_ok _).mono ?_
    rintro r w1 ⟨rfl, hb⟩
    go_wp2
    go_ret
    exact ⟨rfl, below_alloc hb⟩
set_option maxHeartbeats 8000000 in
theorem worlds_in (en gs g : Nat) (he1 : 1 ≤ en) (he8 : en ≤ 8) (hg1 : 1 ≤ gs) (hg16 : gs ≤ 16) (av : Option Addr) (L c : Nat) (hL : L ≤ 80) (hg : g < gs) (A B C D : Nat → Int) (w : World) (hl : OpsIn w av L A B C D) : Calls Try.prog 6 #[.agg #[.int .i64 en, .int .i64 gs], .slice av L c, .int .i64 g] w fun r w' => r = .returned (.bool true) ∧ Below w.heap.size w w' := by
  have hm := hide (show decide (1 ≤ (en : Int) ∧ (en : Int) ≤ 8 ∧ 1 ≤ (gs : Int) ∧ (gs : Int) ≤ 16) = true by simp; omega)
  have hf := hide (decide_eq_true hL)
  have hgi : (0 : Int) ≤ g := by omega
  have hgj : (g : Int) < gs := by omega
  have HL := hide hl
  clear hl
  go_enter Try.func6, Try.ntmps6
  go_wp2_with fail
  refine (mayb en gs true hm.out _).mono ?_
  rintro r w1 ⟨rfl, rfl⟩
  go_wp2_with fail
  refine (fewb av L c true hf.out _).mono ?_
  rintro r w1 ⟨rfl, rfl⟩
  go_wp2_with fail
  refine (new_yes en gs he1 he8 hg1 hg16 _).mono ?_
  rintro r w1 ⟨P, rfl, h1, hP, b1⟩
  have a0 : w1.cell? ⟨w.heap.size, 0, none⟩ = some (.int .i64 en) := cell_next b1 (by simp) (World.cell?_alloc_new w _ 22 0)
  have a1 : w1.cell? ⟨w.heap.size, 1, none⟩ = some (.int .i64 gs) := cell_next b1 (by simp) (World.cell?_alloc_new w _ 22 1)
  have H1 := hide h1
  have B1 := hide (below_alloc b1)
  have hP' : w.heap.size < P := by simp at hP; omega
  clear h1 b1 hP
  go_wp2_with fail
  refine (rnew_yes en gs he1 he8 hg16 _).mono ?_
  rintro r w2 ⟨R, rfl, h2, hR, b2⟩
  have B2 := hide (below_step B1.out B1.out.size b2)
  have hPl : P < w1.heap.size := H1.out.hP
  have TW := hide (tw_new (w := w) H1.out b2 h2 (by omega) hR B2.out)
  clear h2 b2 a0 a1
  go_wp2
  go_loopw [10] (fun v10 wr => LRel w P R en gs L v10 wr) (fun v10 _ => L - (intOf v10).toNat)
  case atStart => exact ⟨0, Nat.zero_le _, rfl, TW.out⟩
  case round =>
    obtain ⟨k, hk, rfl, ws, st, gr, at_, v, ks, G, O, n, wk, ra, rst, hT⟩ := hrel
    have HT := hide hT
    clear hT
    by_cases hlt : k < L
    · rcases HL.out with h0 | ⟨ob, oo, rfl, hol, hop⟩
      · omega
      · obtain ⟨o0, o1, o2, o3⟩ := hop k hlt
        clear hop
        have x0 := cell_next HT.out.bel hol o0
        have x1 := cell_next HT.out.bel hol o1
        have x2 := cell_next HT.out.bel hol o2
        have x3 := cell_next HT.out.bel hol o3
        clear o0 o1 o2 o3
        go_wp2_with fail
        refine (does_any he1 (A k) (B k) (C k) (D k) HT.out).mono ?_
        rintro r w3 ⟨⟨bb, rfl⟩, tw⟩
        have TW3 := hide tw
        clear tw
        go_wp2
        go_roundw
        case rel => exact ⟨k + 1, by omega, int_eq (by omega), TW3.out⟩
        case measure => simp [intOf]; omega
    · rcases known_or ks (g : Int) with hno | ⟨j, o, hj1, hj2⟩
      · have HNO := hide hno
        clear hno
        go_wp2
        go_loopw [11, 12, 13] (fun v11 v12 v13 wq => MissRel w v11 v12 v13 wq ∧ Fr (fun _ => False) wr wq) (fun _ _ v13 _ => 4 - (intOf v13).toNat)
        case atStart => exact ⟨⟨0, by omega, rfl, rfl, rfl, HT.out.bel⟩, Fr.refl _ _⟩
        case round =>
          obtain ⟨⟨k, hk, rfl, rfl, rfl, hB⟩, hF⟩ := hrel
          have BW := hide hB
          have FW := hide hF
          have HW := hide (HT.out.k.fr hF (fun _ _ e => e))
          have IV := hide HT.out.i
          have LK := hide HT.out.lk
          clear hB hF
          by_cases hlt4 : k ≤ 3
          · go_wp2_with fail
            refine (ask_miss (k : Int) g (by omega) (by omega) HNO.out _ HW.out).mono ?_
            rintro r w5 ⟨rfl, hb⟩
            have B5 := hide (below_step BW.out BW.out.size hb)
            have F5 := hide (FW.out.trans (Fr.of_below (S := fun _ => False) hb) (fun _ _ e => e))
            clear hb
            go_wp2
            go_roundw
            case rel => exact ⟨⟨k + 1, by omega, int_eq (by omega), rfl, int_eq (by omega), B5.out⟩, F5.out⟩
            case measure => simp [intOf]; omega
          · obtain rfl : k = 4 := by omega
            go_wp2_with fail
            refine (drop_no_g g hg HNO.out _ HW.out (IV.out)).mono ?_
            rintro r w6 ⟨rfl, ws6, st6, gr6, at6, v6, ks6, k6, no6, f6⟩
            have BEL6 := hide ((BW.out).trans (f6.below (BW.out).size (fun i hi e => by have := LK.out i e; omega)))
            have K6 := hide k6
            have NO6 := hide no6
            clear k6 no6 f6
            go_wp2
            go_loopw [18] (fun v18 wr => EndRel w v18 wr ∧ Fr (fun k => False) w6 wr) (fun v18 _ => 4 - (intOf v18).toNat)
            case atStart => exact ⟨⟨0, by omega, rfl, BEL6.out⟩, Fr.refl _ _⟩
            case round =>
              obtain ⟨⟨k, hk, rfl, hB⟩, hF⟩ := hrel
              have HB := hide hB
              have HF := hide hF
              have HW := hide (K6.out.fr hF (fun _ _ e => e))
              clear hB hF
              by_cases hlt : k ≤ 3
              · go_wp2_with fail
                refine (ask_miss (k : Int) g (by omega) (by omega) NO6.out _ HW.out).mono ?_
                rintro r w7 ⟨rfl, hb⟩
                have B7 := hide (below_step HB.out HB.out.size hb)
                have F7 := hide (HF.out.trans (Fr.of_below (S := fun _ => False) hb) (fun _ _ e => e))
                clear hb
                go_wp2
                go_roundw
                case rel => exact ⟨⟨k + 1, by omega, int_eq (by omega), B7.out⟩, F7.out⟩
                case measure => simp [intOf]; omega
              · go_wp2_with fail
                refine (awake_ok _).mono ?_
                rintro r w7 ⟨rfl, hb⟩
                have B7 := hide (below_step HB.out HB.out.size hb)
                clear hb
                go_wp2
                go_ret
                exact ⟨rfl, B7.out⟩
      · have HJ1 := hide hj1
        have HJ2 := hide hj2
        have hor := (HT.out.i.r _ (List.mem_of_getElem? hj1)).2
        obtain ⟨ho0, ho4⟩ := hor
        clear hj1 hj2
        go_wp2
        go_loopw [11, 12, 13] (fun v11 v12 v13 wq => HitRel o w v11 v12 v13 wq ∧ Fr (fun _ => False) wr wq) (fun _ _ v13 _ => 4 - (intOf v13).toNat)
        case atStart => exact ⟨⟨0, by omega, rfl, rfl, rfl, HT.out.bel⟩, Fr.refl _ _⟩
        case round =>
          obtain ⟨⟨k, hk, rfl, rfl, rfl, hB⟩, hF⟩ := hrel
          have BW := hide hB
          have FW := hide hF
          have HW := hide (HT.out.k.fr hF (fun _ _ e => e))
          have IV := hide HT.out.i
          have LK := hide HT.out.lk
          have hh := hits_le o k
          clear hB hF
          by_cases hlt4 : k ≤ 3
          · by_cases hbb : (k : Int) = 0 ∨ o = k ∨ o = 4
            · have hs := hide (show hitsN o (k + 1) = hitsN o k + 1 by simp only [hitsN]; rw [if_pos hbb])
              have hdc := hide (show decide ((0 ≤ (k : Int) ∧ (k : Int) ≤ 3) ∧ (0 ≤ o ∧ o ≤ 4) ∧ ((k : Int) = 0 ∨ o = k ∨ o = 4)) = true from decide_eq_true ⟨by omega, ⟨ho0, ho4⟩, hbb⟩)
              clear hbb
              go_wp2_with fail
              refine (ask_known (k : Int) g o true j (by omega) (by omega) HJ1.out HJ2.out hdc.out _ HW.out).mono ?_
              rintro r w5 ⟨rfl, hb⟩
              have B5 := hide (below_step BW.out BW.out.size hb)
              have F5 := hide (FW.out.trans (Fr.of_below (S := fun _ => False) hb) (fun _ _ e => e))
              clear hb
              go_wp2
              go_roundw
              case rel => exact ⟨⟨k + 1, by omega, int_eq (by omega), int_eq (by rw [hs.out]; omega), rfl, B5.out⟩, F5.out⟩
              case measure => simp [intOf]; omega
            · have hs := hide (show hitsN o (k + 1) = hitsN o k by simp only [hitsN]; rw [if_neg hbb, Nat.add_zero])
              have hdc := hide (show decide ((0 ≤ (k : Int) ∧ (k : Int) ≤ 3) ∧ (0 ≤ o ∧ o ≤ 4) ∧ ((k : Int) = 0 ∨ o = k ∨ o = 4)) = false from decide_eq_false (fun e => hbb e.2.2))
              have hk0 : ((k : Int) == 0) = false := beq_eq_false_iff_ne.2 (fun e => hbb (.inl e))
              have hkn : (k == 0) = false := by rw [beq_eq_false_iff_ne]; intro e; exact hbb (.inl (by omega))
              clear hbb
              go_wp2_with fail
              refine (ask_known (k : Int) g o false j (by omega) (by omega) HJ1.out HJ2.out hdc.out _ HW.out).mono ?_
              rintro r w5 ⟨rfl, hb⟩
              have B5 := hide (below_step BW.out BW.out.size hb)
              have F5 := hide (FW.out.trans (Fr.of_below (S := fun _ => False) hb) (fun _ _ e => e))
              clear hb
              go_wp2
              go_roundw
              case rel => exact ⟨⟨k + 1, by omega, int_eq (by omega), int_eq (by rw [hs.out]), rfl, B5.out⟩, F5.out⟩
              case measure => simp [intOf]; omega
          · obtain rfl : k = 4 := by omega
            rcases hits_4 o ho0 ho4 with h4 | h4 | h4
            all_goals
              rw [h4]
              clear h4 hh
              go_wp2_with fail
              refine (drop_yes_g g o j hg HJ1.out HJ2.out _ HW.out (IV.out)).mono ?_
              rintro r w6 ⟨rfl, ws6, st6, gr6, at6, v6, ks6, k6, no6, f6⟩
              have BEL6 := hide ((BW.out).trans (f6.below (BW.out).size (fun i hi e => by have := LK.out i e; omega)))
              have K6 := hide k6
              have NO6 := hide no6
              clear k6 no6 f6
              go_wp2
              go_loopw [18] (fun v18 wr => EndRel w v18 wr ∧ Fr (fun k => False) w6 wr) (fun v18 _ => 4 - (intOf v18).toNat)
              case atStart => exact ⟨⟨0, by omega, rfl, BEL6.out⟩, Fr.refl _ _⟩
              case round =>
                obtain ⟨⟨k, hk, rfl, hB⟩, hF⟩ := hrel
                have HB := hide hB
                have HF := hide hF
                have HW := hide (K6.out.fr hF (fun _ _ e => e))
                clear hB hF
                by_cases hlt : k ≤ 3
                · go_wp2_with fail
                  refine (ask_miss (k : Int) g (by omega) (by omega) NO6.out _ HW.out).mono ?_
                  rintro r w7 ⟨rfl, hb⟩
                  have B7 := hide (below_step HB.out HB.out.size hb)
                  have F7 := hide (HF.out.trans (Fr.of_below (S := fun _ => False) hb) (fun _ _ e => e))
                  clear hb
                  go_wp2
                  go_roundw
                  case rel => exact ⟨⟨k + 1, by omega, int_eq (by omega), B7.out⟩, F7.out⟩
                  case measure => simp [intOf]; omega
                · go_wp2_with fail
                  refine (awake_ok _).mono ?_
                  rintro r w7 ⟨rfl, hb⟩
                  have B7 := hide (below_step HB.out HB.out.size hb)
                  clear hb
                  go_wp2
                  go_ret
                  exact ⟨rfl, B7.out⟩
end Go.Proofs.Ytfikiophfphmbaa
