/- LanePlays, walked. -/
import Derived.Test.YtopfbmgmpihcnaaT1
import Derived.WalkKit
import Derived.WalkSpells
import Derived.ProofKit
import Derived.Outline
import Derived.Handy
import Derived.RowKit3
import Derived.BigQuiet
import Derived.Deep.QuietTactic
import Derived.Deep.RegionHeld3
import Derived.Deep.Draws
import Derived.Deep.RegionLaw
import Derived.RegionTactic
import Derived.BigRegion
import Derived.IntWalk
import Derived.LoopTactic
import Derived.OwnWalk
import Derived.Laws.AppendOwn
import Derived.Laws.OwnMore
import Derived.Laws.MakeOwn
import Derived.Laws.Pointers
import Derived.Maps.AppendAt
import Derived.Deep.AppendLies
import Derived.Below
namespace Go.Proofs.Ytopfbmgmpihcnaa
open Go.RowKit
set_option linter.unusedVariables false
set_option maxRecDepth 100000

/-- Calls that came in. -/
def OpsIn (w : World) (av : Option Addr) (L : Nat) (A Z : Nat → Int) (AV : Nat → Option Addr) (C : Nat → Nat) (MS : Nat → List Nt) : Prop :=
  L = 0 ∨ ∃ b off, av = some ⟨b, off, none⟩ ∧ b < w.heap.size ∧ ∀ i, i < L → w.cell? ⟨b, off + i * 3, none⟩ = some (.int .i64 (A i)) ∧ w.cell? ⟨b, off + i * 3 + 1, none⟩ = some (.int .i64 (Z i)) ∧ w.cell? ⟨b, off + i * 3 + 2, none⟩ = some (.slice (AV i) (MS i).length (C i)) ∧ SrcB w w.heap.size (.slice (AV i) (MS i).length (C i)) (MS i) ∧ (MS i).length ≤ maxLen
def FewRel (L : Nat) (MS : Nat → List Nt) (w : World) (v3 : Value) (wr : World) : Prop := ∃ k : Nat, k ≤ L ∧ v3 = .int .i64 k ∧ (∀ j, j < k → (MS j).length ≤ 20) ∧ w = wr
set_option maxHeartbeats 2000000 in
theorem few_any (av : Option Addr) (L c : Nat) (hL : L ≤ maxLen) (A Z : Nat → Int) (AV : Nat → Option Addr) (C : Nat → Nat) (MS : Nat → List Nt) (w : World) (hl : OpsIn w av L A Z AV C MS) (b : Bool) (hb : b = true ↔ (∀ j, j < L → (MS j).length ≤ 20) ∧ L ≤ 60) :
    Calls Try.prog 9 #[.slice av L c] w fun r w' => r = .returned (.bool b) ∧ w = w' := by
  unfold maxLen at hL
  have HL := hide hl
  have HB := hide hb
  clear hl hb
  go_enter Try.func9, Try.ntmps9
  go_wp2
  go_loopw [3] (fun v3 wr => FewRel L MS w v3 wr) (fun v3 _ => L - (intOf v3).toNat)
  case atStart => exact ⟨0, Nat.zero_le _, rfl, by omega, rfl⟩
  case round =>
    obtain ⟨k, hk, rfl, hall, rfl⟩ := hrel
    have HA := hide hall
    clear hall
    by_cases hlt : k < L
    · obtain ⟨b0, off, rfl, hbl, hli⟩ : ∃ b off, av = some ⟨b, off, none⟩ ∧ b < w.heap.size ∧ ∀ i, i < L → w.cell? ⟨b, off + i * 3, none⟩ = some (.int .i64 (A i)) ∧ w.cell? ⟨b, off + i * 3 + 1, none⟩ = some (.int .i64 (Z i)) ∧ w.cell? ⟨b, off + i * 3 + 2, none⟩ = some (.slice (AV i) (MS i).length (C i)) ∧ SrcB w w.heap.size (.slice (AV i) (MS i).length (C i)) (MS i) ∧ (MS i).length ≤ maxLen := HL.out.resolve_left (by omega)
      obtain ⟨-, -, c2, -, -⟩ := hli k hlt
      clear hli
      by_cases hm : (MS k).length ≤ 20
      · have hm2 : ¬ (20 < ((MS k).length : Int)) := by omega
        go_wp2
        go_roundw
        case rel => exact ⟨k + 1, by omega, int_eq (by omega), fun j hj => (by
          by_cases e : j = k
          · rw [e]; exact hm
          · exact HA.out j (by omega)), rfl⟩
        case measure => simp [intOf]; omega
      · have hm2 : 20 < ((MS k).length : Int) := by omega
        have e : b = false := by
          cases b
          · rfl
          · exact absurd ((HB.out.1 rfl).1 k hlt) hm
        subst e
        go_wp2
        go_ret
        exact ⟨rfl, rfl⟩
    · obtain rfl : k = L := by omega
      have hb : b = decide (k ≤ 60) := by
        rw [Bool.eq_iff_iff, HB.out]
        simp only [decide_eq_true_eq]
        exact ⟨fun h => h.2, fun h => ⟨HA.out, h⟩⟩
      subst hb
      go_wp2
      go_ret
      exact ⟨ret_bool (by simp; omega), rfl⟩
theorem does_any {w0 w : World} {P R d : Nat} {v rv : Value} {ns ms : List Nt} (h : Two w0 w P R d v ns rv ns) (a z : Int) (av : Option Addr) (c : Nat) (hms : ms.length ≤ 20) (hs : SrcB w w0.heap.size (.slice av ms.length c) ms) :
    Calls Try.prog 10 #[.pointer (some ⟨P, 0, none⟩), .pointer (some ⟨R, 0, none⟩), .agg #[.int .i64 a, .int .i64 z, .slice av ms.length c]] w (Doth w0 P R d) := by
  by_cases ha : a = 0
  · subst ha; exact does_put h z av c hms hs
  · have hab : (a == 0) = false := beq_eq_false_iff_ne.2 ha
    by_cases hn : ns = []
    · subst hn; exact does_none h a z hab _ av _ c rfl
    · have hpos : (0 : Int) < ns.length := by
        cases ns
        · exact absurd rfl hn
        · simp
      obtain ⟨i, hi⟩ : ∃ i : Nat, z % (ns.length : Int) = i := ⟨(z % (ns.length : Int)).toNat, by have := Int.emod_nonneg z (show (ns.length : Int) ≠ 0 by omega); omega⟩
      have hil : i < ns.length := by have := Int.emod_lt_of_pos z hpos; omega
      exact does_some h a z hab i ns[i] hi (List.getElem?_eq_getElem hil) av _ c
theorem Two.start {w0 w1 : World} {P d : Nat} (h : La w1 P d (.slice none 0 0) []) (hP : w0.heap.size ≤ P) (b : Below w0.heap.size w0 w1) : Two w0 (w1.alloc (.cells #[.int .i64 (d : Int), .slice none 0 0] 32)) P w1.heap.size d (.slice none 0 0) [] (.slice none 0 0) [] := by
  have hPl := h.hP
  have nn : ∀ (Q k : Nat), La.S Q (.slice none 0 0) k → k = Q := by
    rintro Q k (e | e)
    · exact e
    · cases e
  have b1 : Below w1.heap.size w1 (w1.alloc (.cells #[.int .i64 (d : Int), .slice none 0 0] 32)) := (Below.refl _ _).alloc (Nat.le_refl _) _
  refine ⟨h.next b1, ⟨by simp, by simp [go_sem], by simp [go_sem], World.frozen?_alloc_new _ _ _ _, World.ownsRow_nil _ _ _ _, by simp [Value.ownBlock], Nat.zero_le _, h.d16⟩, fun k e e2 => ?_, fun k e => ?_, fun k e => ?_, below_step b b.size b1⟩
  · have := nn _ _ e; have := nn _ _ e2; omega
  · have := nn _ _ e; omega
  · have := nn _ _ e; have := b.size; omega
def PlayRel (w : World) (P R d L : Nat) (v8 : Value) (wr : World) : Prop := ∃ (k : Nat) (v rv : Value) (ns : List Nt), k ≤ L ∧ v8 = .int .i64 k ∧ Two w wr P R d v ns rv ns
set_option maxHeartbeats 4000000 in
theorem plays_in (d : Nat) (h1 : 1 ≤ d) (h2 : d ≤ 16) (av : Option Addr) (L c : Nat) (hL : L ≤ 60) (A Z : Nat → Int) (AV : Nat → Option Addr) (C : Nat → Nat) (MS : Nat → List Nt) (hM : ∀ j, j < L → (MS j).length ≤ 20) (w : World) (hl : OpsIn w av L A Z AV C MS) :
    Calls Try.prog 3 #[.int .i64 d, .slice av L c] w fun r w' => r = .returned (.bool true) ∧ Below w.heap.size w w' := by
  have HL := hide hl
  have HM := hide hM
  clear hl hM
  go_enter Try.func3, Try.ntmps3
  go_wp2_with fail
  refine (new_yes d h1 h2 _).mono ?_
  rintro r w1 ⟨P, rfl, hl1, hP, hb1⟩
  have T0 := hide (Two.start hl1 hP hb1)
  have O1 := hide (show OpsIn w1 av L A Z AV C MS from HL.out.imp id (fun ⟨b, off, e, hb, hi⟩ => ⟨b, off, e, Nat.lt_of_lt_of_le hb hb1.size, fun i hil => by
    obtain ⟨k0, k1, k2, k3, k4⟩ := hi i hil
    exact ⟨cell_next hb1 hb k0, cell_next hb1 hb k1, cell_next hb1 hb k2, ⟨(k3.next hb1).1, fun h k hk => Nat.lt_of_lt_of_le (k3.2 h k hk) hb1.size⟩, k4⟩⟩))
  clear hl1 hb1
  go_wp2_with fail
  refine (few_any av L c (by unfold maxLen; omega) A Z AV C MS _ O1.out true ⟨fun _ => ⟨HM.out, hL⟩, fun _ => rfl⟩).mono ?_
  rintro r w1' ⟨rfl, rfl⟩
  go_wp2_with fail
  obtain ⟨R, hR⟩ : ∃ R, R = w1.heap.size := ⟨_, rfl⟩
  rw [← hR]
  go_loopw [8] (fun v8 wr => PlayRel w P R d L v8 wr) (fun v8 _ => L - (intOf v8).toNat)
  case atStart => exact ⟨0, _, _, _, Nat.zero_le _, rfl, by rw [hR]; exact T0.out⟩
  case round =>
    clear hR
    obtain ⟨k, v, rv, ns, hk, rfl, hT⟩ := hrel
    have HT := hide hT
    clear hT
    by_cases hlt : k < L
    · obtain ⟨b0, off, rfl, hbl, hli⟩ : ∃ b off, av = some ⟨b, off, none⟩ ∧ b < w.heap.size ∧ ∀ i, i < L → w.cell? ⟨b, off + i * 3, none⟩ = some (.int .i64 (A i)) ∧ w.cell? ⟨b, off + i * 3 + 1, none⟩ = some (.int .i64 (Z i)) ∧ w.cell? ⟨b, off + i * 3 + 2, none⟩ = some (.slice (AV i) (MS i).length (C i)) ∧ SrcB w w.heap.size (.slice (AV i) (MS i).length (C i)) (MS i) ∧ (MS i).length ≤ maxLen := HL.out.resolve_left (by omega)
      obtain ⟨c0, c1, c2, c3, -⟩ := hli k hlt
      have hbel := HT.out.bel
      replace c0 := (hbel.cell (p := ⟨b0, off + k * 3, none⟩) hbl).trans c0
      replace c1 := (hbel.cell (p := ⟨b0, off + k * 3 + 1, none⟩) hbl).trans c1
      replace c2 := (hbel.cell (p := ⟨b0, off + k * 3 + 2, none⟩) hbl).trans c2
      have C3 := hide (c3.next hbel)
      clear hli c3 hbel
      go_wp2_with fail
      refine (does_any HT.out (A k) (Z k) (AV k) (C k) (HM.out k hlt) C3.out).mono ?_
      rintro r w2 ⟨rfl, v2, rv2, ns2, hT2⟩
      have HT2 := hide hT2
      clear hT2
      go_wp2_with fail
      refine (same_yes _ HT2.out.x HT2.out.y).mono ?_
      rintro r w3 ⟨rfl, hb3⟩
      have HT3 := hide (HT2.out.next hb3)
      clear hb3
      go_wp2
      go_roundw
      case rel => exact ⟨k + 1, _, _, _, by omega, int_eq (by omega), HT3.out⟩
      case measure => simp [intOf]; omega
    · go_wp2_with fail
      refine (awake_yes _).mono ?_
      rintro r w2 ⟨rfl, hb⟩
      have := below_step HT.out.bel HT.out.bel.size hb
      go_wp2
      go_ret
      exact ⟨rfl, this⟩
theorem plays_few (d : Nat) (h1 : 1 ≤ d) (h2 : d ≤ 16) (av : Option Addr) (L c : Nat) (hL : L ≤ maxLen) (A Z : Nat → Int) (AV : Nat → Option Addr) (C : Nat → Nat) (MS : Nat → List Nt) (hM : ¬ ((∀ j, j < L → (MS j).length ≤ 20) ∧ L ≤ 60)) (w : World) (hl : OpsIn w av L A Z AV C MS) :
    Calls Try.prog 3 #[.int .i64 d, .slice av L c] w fun r w' => r = .returned (.bool true) ∧ Below w.heap.size w w' := by
  have HL := hide hl
  have HM := hide hM
  clear hl hM
  go_enter Try.func3, Try.ntmps3
  go_wp2_with fail
  refine (new_yes d h1 h2 _).mono ?_
  rintro r w1 ⟨P, rfl, hl1, hP, hb1⟩
  have B1 := hide hb1
  have O1 := hide (show OpsIn w1 av L A Z AV C MS from HL.out.imp id (fun ⟨b, off, e, hb, hi⟩ => ⟨b, off, e, Nat.lt_of_lt_of_le hb hb1.size, fun i hil => by
    obtain ⟨k0, k1, k2, k3, k4⟩ := hi i hil
    exact ⟨cell_next hb1 hb k0, cell_next hb1 hb k1, cell_next hb1 hb k2, ⟨(k3.next hb1).1, fun h k hk => Nat.lt_of_lt_of_le (k3.2 h k hk) hb1.size⟩, k4⟩⟩))
  clear hl1 hb1
  go_wp2_with fail
  refine (few_any av L c hL A Z AV C MS _ O1.out false ⟨(fun h => nomatch h), fun h => absurd h HM.out⟩).mono ?_
  rintro r w1' ⟨rfl, rfl⟩
  go_wp2_with fail
  refine (awake_yes _).mono ?_
  rintro r w2 ⟨rfl, hb⟩
  have := below_step B1.out B1.out.size hb
  clear hb
  go_wp2
  go_ret
  exact ⟨rfl, this⟩
theorem plays_out (z : Int) (av : Option Addr) (L c : Nat) (h : ¬ (1 ≤ z ∧ z ≤ 16)) (w : World) :
    Calls Try.prog 3 #[.int .i64 z, .slice av L c] w fun r w' => r = .returned (.bool true) ∧ Below w.heap.size w w' := by
  have H := hide h
  have hc : z < 1 ∨ (¬ z < 1 ∧ 16 < z) := by omega
  clear h
  rcases hc with a1 | ⟨a1, a2⟩
  all_goals
    go_enter Try.func3, Try.ntmps3
    go_wp2_with fail
    refine (new_no z H.out _).mono ?_
    rintro r w1 ⟨rfl, rfl⟩
    go_wp2_with fail
    refine (awake_yes _).mono ?_
    rintro r w2 ⟨rfl, hb⟩
    go_wp2
    go_ret
    exact ⟨rfl, hb⟩
theorem plays_law (z : Int) (av : Option Addr) (L c : Nat) (hL : L ≤ maxLen) (A Z : Nat → Int) (AV : Nat → Option Addr) (C : Nat → Nat) (MS : Nat → List Nt) (w : World) (hl : OpsIn w av L A Z AV C MS) :
    Calls Try.prog 3 #[.int .i64 z, .slice av L c] w fun r w' => r = .returned (.bool true) ∧ Below w.heap.size w w' := by
  by_cases h : 1 ≤ z ∧ z ≤ 16
  · obtain ⟨d, rfl⟩ : ∃ d : Nat, z = d := ⟨z.toNat, by omega⟩
    by_cases hM : (∀ j, j < L → (MS j).length ≤ 20) ∧ L ≤ 60
    · exact plays_in d (by omega) (by omega) av L c hM.2 A Z AV C MS hM.1 w hl
    · exact plays_few d (by omega) (by omega) av L c hL A Z AV C MS hM w hl
  · exact plays_out z av L c h w
end Go.Proofs.Ytopfbmgmpihcnaa
