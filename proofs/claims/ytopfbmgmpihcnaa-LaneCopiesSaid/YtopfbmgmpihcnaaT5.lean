/- LaneCopies, walked. -/
import Derived.Test.YtopfbmgmpihcnaaT4
import Derived.Test.YtopfbmgmpihcnaaT2
import Derived.Test.YtopfbmgmpihcnaaU1
import Derived.WalkKit
import Derived.WalkSpells
import Derived.ProofKit
import Derived.Outline
import Derived.Handy
import Derived.RowKit3
import Derived.BigQuiet
import Derived.Deep.QuietTactic
import Derived.Deep.RegionHeld3
import Derived.Deep.Draws
import Derived.Deep.RegionLaw
import Derived.RegionTactic
import Derived.BigRegion
import Derived.IntWalk
import Derived.LoopTactic
import Derived.OwnWalk
import Derived.Laws.AppendOwn
import Derived.Laws.OwnMore
import Derived.Laws.MakeOwn
import Derived.Laws.Pointers
import Derived.Maps.AppendAt
import Derived.Deep.AppendLies
import Derived.Below
namespace Go.Proofs.Ytopfbmgmpihcnaa
open Go.RowKit
set_option linter.unusedVariables false
set_option maxRecDepth 100000

theorem Twg.start {w0 w1 : World} {P d : Nat} (h : La w1 P d (.slice none 0 0) []) (hP : w0.heap.size ≤ P) (b : Below w0.heap.size w0 w1) : Twg (fun _ => False) w0.heap.size w0 (w1.alloc (.cells #[.int .i64 (d : Int), .slice none 0 0] 32)) P w1.heap.size d (.slice none 0 0) [] (.slice none 0 0) [] := by
  have T := Two.start h hP b
  exact ⟨T.x, T.y, T.dis, fun k e => .inr (T.lx k e), fun k e => .inr (T.ly k e), Fr.of_below T.bel, fun _ e => e.elim, Nat.le_refl _⟩
/-- What the second loop leaves alone: a copy at C, the reference at R, and what All went through at B. -/
structure Rest (G : Nat → Prop) (w : World) (C R B d : Nat) (vc rv va : Value) (ns : List Nt) : Prop where
  c : La w C d vc ns
  r : La w R d rv ns
  a : AllAt w B va ns
  nc : ∀ k, La.S C vc k → ¬ G k
  nr : ∀ k, La.S R rv k → ¬ G k
  nB : ¬ G B
  na : ∀ k, va.ownBlock = some k → ¬ G k
theorem Rest.fr {G : Nat → Prop} {w w' : World} {C R B d : Nat} {vc rv va : Value} {ns : List Nt} (h : Rest G w C R B d vc rv va ns) (f : Fr G w w') : Rest G w' C R B d vc rv va ns :=
  ⟨h.c.fr f h.nc, h.r.fr f h.nr, h.a.fr f h.nB h.na, h.nc, h.nr, h.nB, h.na⟩
theorem Rest.next {G : Nat → Prop} {w w' : World} {C R B d : Nat} {vc rv va : Value} {ns : List Nt} (h : Rest G w C R B d vc rv va ns) (b : Below w.heap.size w w') : Rest G w' C R B d vc rv va ns :=
  ⟨h.c.next b, h.r.next b, h.a.next b, h.nc, h.nr, h.nB, h.na⟩
def CopRel (G : Nat → Prop) (B0 : Nat) (w0 : World) (P R d L : Nat) (v : Value) (wr : World) : Prop := ∃ (k : Nat) (x y : Value) (ns : List Nt), k ≤ L ∧ v = .int .i64 k ∧ Twg G B0 w0 wr P R d x ns y ns
theorem op_at {w W : World} {av : Option Addr} {L : Nat} {A Z : Nat → Int} {AV : Nat → Option Addr} {C : Nat → Nat} {MS : Nat → List Nt} (h : OpsIn w av L A Z AV C MS) (b : Below w.heap.size w W) (k : Nat) (hk : k < L) :
    ∃ b0 off, av = some ⟨b0, off, none⟩ ∧ W.cell? ⟨b0, off + k * 3, none⟩ = some (.int .i64 (A k)) ∧ W.cell? ⟨b0, off + k * 3 + 1, none⟩ = some (.int .i64 (Z k)) ∧ W.cell? ⟨b0, off + k * 3 + 2, none⟩ = some (.slice (AV k) (MS k).length (C k)) ∧ SrcB W w.heap.size (.slice (AV k) (MS k).length (C k)) (MS k) := by
  obtain ⟨b0, off, rfl, hbl, hli⟩ := h.resolve_left (by omega)
  obtain ⟨c0, c1, c2, c3, -⟩ := hli k hk
  exact ⟨b0, off, rfl, (b.cell (p := ⟨b0, off + k * 3, none⟩) hbl).trans c0, (b.cell (p := ⟨b0, off + k * 3 + 1, none⟩) hbl).trans c1, (b.cell (p := ⟨b0, off + k * 3 + 2, none⟩) hbl).trans c2, c3.next b⟩
set_option maxHeartbeats 8000000 in
theorem copies_in (d : Nat) (h1 : 1 ≤ d) (h2 : d ≤ 16) (av : Option Addr) (L c : Nat) (hL : L ≤ 60) (A Z : Nat → Int) (AV : Nat → Option Addr) (C : Nat → Nat) (MS : Nat → List Nt) (hM : ∀ j, j < L → (MS j).length ≤ 20)
    (bv : Option Addr) (L' c' : Nat) (hL' : L' ≤ 60) (A' Z' : Nat → Int) (AV' : Nat → Option Addr) (C' : Nat → Nat) (MS' : Nat → List Nt) (hM' : ∀ j, j < L' → (MS' j).length ≤ 20) (w : World) (hl : OpsIn w av L A Z AV C MS) (hl' : OpsIn w bv L' A' Z' AV' C' MS') :
    Calls Try.prog 4 #[.int .i64 d, .slice av L c, .slice bv L' c'] w fun r w' => r = .returned (.bool true) ∧ Below w.heap.size w w' := by
  have HL := hide hl
  have HM := hide hM
  have HL' := hide hl'
  have HM' := hide hM'
  clear hl hM hl' hM'
  go_enter Try.func4, Try.ntmps4
  go_wp2_with fail
  refine (few_any av L c (by unfold maxLen; omega) A Z AV C MS _ HL.out true ⟨fun _ => ⟨HM.out, hL⟩, fun _ => rfl⟩).mono ?_
  rintro r w0' ⟨rfl, rfl⟩
  go_wp2_with fail
  refine (few_any bv L' c' (by unfold maxLen; omega) A' Z' AV' C' MS' _ HL'.out true ⟨fun _ => ⟨HM'.out, hL'⟩, fun _ => rfl⟩).mono ?_
  rintro r w0' ⟨rfl, rfl⟩
  go_wp2_with fail
  refine (new_yes d h1 h2 _).mono ?_
  rintro r w1 ⟨P, rfl, hl1, hP, hb1⟩
  have T0 := hide (Twg.start hl1 hP hb1)
  clear hl1 hb1
  go_wp2_with fail
  obtain ⟨R, hR⟩ : ∃ R, R = w1.heap.size := ⟨_, rfl⟩
  rw [← hR]
  rw [← hR] at T0
  clear hR
  go_loopw [10] (fun v10 wr => CopRel (fun _ => False) w.heap.size w P R d L v10 wr) (fun v10 _ => L - (intOf v10).toNat)
  case atStart => exact ⟨0, _, _, _, Nat.zero_le _, rfl, T0.out⟩
  case round =>
    clear T0
    obtain ⟨k, v, rv, ns, hk, rfl, hT⟩ := hrel
    have HT := hide hT
    clear hT
    by_cases hlt : k < L
    · obtain ⟨b0, off, rfl, c0, c1, c2, c3⟩ := op_at HL.out HT.out.bel k hlt
      have C3 := hide c3
      clear c3
      go_wp2_with fail
      refine (dg_any HT.out (A k) (Z k) (AV k) (C k) (HM.out k hlt) C3.out).mono ?_
      rintro r w2 ⟨rfl, v2, rv2, ns2, hT2⟩
      have HT2 := hide hT2
      clear hT2
      go_wp2
      go_roundw
      case rel => exact ⟨k + 1, _, _, _, by omega, int_eq (by omega), HT2.out⟩
      case measure => simp [intOf]; omega
    · obtain rfl : k = L := by omega
      have hlen : ns.length ≤ 100 := by have := HT.out.x.le; omega
      go_wp2_with fail
      refine (copy_any _ HT.out.x).mono ?_
      rintro r w2 ⟨Cq, vc, rfl, hC, hSC, hb2⟩
      have X2 := hide (HT.out.next hb2)
      have HC2 := hide hC
      have HSC := hide hSC
      have z2 := hb2.size
      clear hC hSC hb2
      go_wp2_with fail
      refine (all_any _ X2.out.x).mono ?_
      rintro r w3 ⟨va, rfl, hA, hb3, hvA⟩
      have X3 := hide (X2.out.next hb3)
      have HC3 := hide (HC2.out.next hb3)
      have HA3 := hide hA
      have HVA := hide hvA
      have z3 := hb3.size
      have zB := hA.hB
      clear hA hvA hb3
      go_wp2_with fail
      refine (rcopy_any _ X3.out.y).mono ?_
      rintro r w4 ⟨Q, vq, rfl, hQ, hSQ, hb4⟩
      have X4 := hide (X3.out.next hb4)
      have HC4 := hide (HC3.out.next hb4)
      have HA4 := hide (HA3.out.next hb4)
      have HQ4 := hide hQ
      have HSQ := hide hSQ
      have z4 := hb4.size
      clear hQ hSQ hb4
      go_wp2_with fail
      refine (same_yes _ HC4.out X4.out.y).mono ?_
      rintro r w5 ⟨rfl, hb5⟩
      have X5 := hide (X4.out.next hb5)
      have HQ5 := hide (HQ4.out.next hb5)
      have R5 := hide (show Rest (fun k => La.S P v k ∨ La.S Q vq k) w5 Cq R w2.heap.size d vc rv va ns from by
        have hx := HT.out.x.lt
        have hy := HT.out.y.lt
        have hc := HC2.out.lt
        refine ⟨HC4.out.next hb5, X5.out.y, HA4.out.next hb5, fun k e g => ?_, fun k e g => ?_, fun g => ?_, fun k e g => ?_⟩
        · rcases g with g | g
          · have := hx k g; have := HSC.out k e; omega
          · have := HSQ.out k g; have := hc k e; omega
        · rcases g with g | g
          · exact HT.out.dis k g e
          · have := HSQ.out k g; have := hy k e; omega
        · rcases g with g | g
          · have := hx _ g; omega
          · have := HSQ.out _ g; omega
        · rcases g with g | g
          · have := hx k g; have := HVA.out k e; omega
          · have := HSQ.out k g; have := HA3.out.lt k e; omega)
      have T5 := hide (show Twg (fun k => La.S P v k ∨ La.S Q vq k) w.heap.size w5 w5 P Q d v ns vq ns from by
        have hx := HT.out.x.lt
        refine ⟨X5.out.x, HQ5.out, fun k e g => ?_, fun k e => .inl (.inl e), fun k e => .inl (.inr e), Fr.refl _ _, fun k e => ?_, X5.out.sz⟩
        · have := hx k e; have := HSQ.out k g; omega
        · rcases e with e | e
          · exact X5.out.lowx k e
          · have := HSQ.out k e; have := HT.out.sz; omega)
      clear hb5
      go_wp2_with fail
      go_loopw [14] (fun v14 wz => CopRel (fun k => La.S P v k ∨ La.S Q vq k) w.heap.size w5 P Q d L' v14 wz) (fun v14 _ => L' - (intOf v14).toNat)
      case atStart => exact ⟨0, _, _, _, Nat.zero_le _, rfl, T5.out⟩
      case round =>
        clear T5
        obtain ⟨j, x6, y6, ns6, hj, rfl, hT6⟩ := hrel
        have HT6 := hide hT6
        clear hT6
        have bel := hide (X5.out.bel.trans HT6.out.bel)
        by_cases hlt' : j < L'
        · obtain ⟨b0, off, rfl, c0, c1, c2, c3⟩ := op_at HL'.out bel.out j hlt'
          have C3 := hide c3
          clear c3
          go_wp2_with fail
          refine (dg_any HT6.out (A' j) (Z' j) (AV' j) (C' j) (HM'.out j hlt') C3.out).mono ?_
          rintro r w7 ⟨rfl, v2, rv2, ns2, hT2⟩
          have HT2 := hide hT2
          clear hT2
          go_wp2
          go_roundw
          case rel => exact ⟨j + 1, _, _, _, by omega, int_eq (by omega), HT2.out⟩
          case measure => simp [intOf]; omega
        · have R6 := hide (R5.out.fr HT6.out.fr)
          have q1 := R6.out.r.c1
          go_wp2_with fail
          refine (notes_yes hlen _ R6.out.a R6.out.r.src).mono ?_
          rintro r w7 ⟨rfl, hb7⟩
          have R7 := hide (R6.out.next hb7)
          have T7 := hide (HT6.out.next hb7)
          clear hb7 q1
          go_wp2_with fail
          refine (same_yes _ R7.out.c R7.out.r).mono ?_
          rintro r w8 ⟨rfl, hb8⟩
          have T8 := hide (T7.out.next hb8)
          clear hb8
          go_wp2_with fail
          refine (same_yes _ T8.out.x T8.out.y).mono ?_
          rintro r w9 ⟨rfl, hb9⟩
          have T9 := hide (T8.out.next hb9)
          clear hb9
          go_wp2_with fail
          refine (awake_yes _).mono ?_
          rintro r w10 ⟨rfl, hb10⟩
          have B10 := hide (X5.out.bel.trans (T9.out.next hb10).bel)
          clear hb10
          go_wp2
          go_ret
          exact ⟨rfl, B10.out⟩
theorem copies_out (z : Int) (av : Option Addr) (L c : Nat) (bv : Option Addr) (L' c' : Nat) (h : ¬ (1 ≤ z ∧ z ≤ 16)) (w : World) :
    Calls Try.prog 4 #[.int .i64 z, .slice av L c, .slice bv L' c'] w fun r w' => r = .returned (.bool true) ∧ Below w.heap.size w w' := by
  have hc : z < 1 ∨ (¬ z < 1 ∧ 16 < z) := by omega
  clear h
  rcases hc with a1 | ⟨a1, a2⟩
  all_goals
    go_enter Try.func4, Try.ntmps4
    go_wp2_with fail
    refine (awake_yes _).mono ?_
    rintro r w2 ⟨rfl, hb⟩
    go_wp2
    go_ret
    exact ⟨rfl, hb⟩
theorem copies_few (d : Nat) (h1 : 1 ≤ d) (h2 : d ≤ 16) (av : Option Addr) (L c : Nat) (hL : L ≤ maxLen) (A Z : Nat → Int) (AV : Nat → Option Addr) (C : Nat → Nat) (MS : Nat → List Nt)
    (bv : Option Addr) (L' c' : Nat) (hL' : L' ≤ maxLen) (A' Z' : Nat → Int) (AV' : Nat → Option Addr) (C' : Nat → Nat) (MS' : Nat → List Nt) (hM : ¬ (((∀ j, j < L → (MS j).length ≤ 20) ∧ L ≤ 60) ∧ ((∀ j, j < L' → (MS' j).length ≤ 20) ∧ L' ≤ 60))) (w : World) (hl : OpsIn w av L A Z AV C MS) (hl' : OpsIn w bv L' A' Z' AV' C' MS') :
    Calls Try.prog 4 #[.int .i64 d, .slice av L c, .slice bv L' c'] w fun r w' => r = .returned (.bool true) ∧ Below w.heap.size w w' := by
  have HL := hide hl
  have HL' := hide hl'
  have HM := hide hM
  clear hl hl' hM
  by_cases hf : (∀ j, j < L → (MS j).length ≤ 20) ∧ L ≤ 60
  · have HF := hide hf
    clear hf
    go_enter Try.func4, Try.ntmps4
    go_wp2_with fail
    refine (few_any av L c hL A Z AV C MS _ HL.out true ⟨fun _ => HF.out, fun _ => rfl⟩).mono ?_
    rintro r w0' ⟨rfl, rfl⟩
    go_wp2_with fail
    refine (few_any bv L' c' hL' A' Z' AV' C' MS' _ HL'.out false ⟨(fun h => nomatch h), fun h => absurd ⟨HF.out, h⟩ HM.out⟩).mono ?_
    rintro r w0' ⟨rfl, rfl⟩
    go_wp2_with fail
    refine (awake_yes _).mono ?_
    rintro r w2 ⟨rfl, hb⟩
    go_wp2
    go_ret
    exact ⟨rfl, hb⟩
  · have HF := hide hf
    clear hf
    go_enter Try.func4, Try.ntmps4
    go_wp2_with fail
    refine (few_any av L c hL A Z AV C MS _ HL.out false ⟨(fun h => nomatch h), fun h => absurd h HF.out⟩).mono ?_
    rintro r w0' ⟨rfl, rfl⟩
    go_wp2_with fail
    refine (awake_yes _).mono ?_
    rintro r w2 ⟨rfl, hb⟩
    go_wp2
    go_ret
    exact ⟨rfl, hb⟩
theorem copies_law (z : Int) (av : Option Addr) (L c : Nat) (hL : L ≤ maxLen) (A Z : Nat → Int) (AV : Nat → Option Addr) (C : Nat → Nat) (MS : Nat → List Nt)
    (bv : Option Addr) (L' c' : Nat) (hL' : L' ≤ maxLen) (A' Z' : Nat → Int) (AV' : Nat → Option Addr) (C' : Nat → Nat) (MS' : Nat → List Nt) (w : World) (hl : OpsIn w av L A Z AV C MS) (hl' : OpsIn w bv L' A' Z' AV' C' MS') :
    Calls Try.prog 4 #[.int .i64 z, .slice av L c, .slice bv L' c'] w fun r w' => r = .returned (.bool true) ∧ Below w.heap.size w w' := by
  by_cases h : 1 ≤ z ∧ z ≤ 16
  · obtain ⟨d, rfl⟩ : ∃ d : Nat, z = d := ⟨z.toNat, by omega⟩
    by_cases hM : ((∀ j, j < L → (MS j).length ≤ 20) ∧ L ≤ 60) ∧ ((∀ j, j < L' → (MS' j).length ≤ 20) ∧ L' ≤ 60)
    · exact copies_in d (by omega) (by omega) av L c hM.1.2 A Z AV C MS hM.1.1 bv L' c' hM.2.2 A' Z' AV' C' MS' hM.2.1 w hl hl'
    · exact copies_few d (by omega) (by omega) av L c hL A Z AV C MS bv L' c' hL' A' Z' AV' C' MS' hM w hl hl'
  · exact copies_out z av L c bv L' c' h w
end Go.Proofs.Ytopfbmgmpihcnaa
