/- Words, walked. -/
import Derived.Test.YtdpdofdfdjcpoaaC
import Derived.WalkKit
import Derived.WalkSpells
import Derived.ProofKit
import Derived.Outline
import Derived.Handy
import Derived.RowKit3
import Derived.BigQuiet
import Derived.Deep.QuietTactic
import Derived.Deep.RegionHeld3
import Derived.Deep.Draws
import Derived.RegionTactic
import Derived.BigRegion
import Derived.IntWalk
import Derived.LoopTactic
import Derived.OwnWalk
import Derived.Laws.AppendOwn
import Derived.Laws.OwnMore
import Derived.Laws.MakeOwn
import Derived.Laws.Pointers
import Derived.Maps.AppendAt
import Derived.Below
namespace Go.Proofs.Ytdpdofdfdjcpoaa
open Go.RowKit
set_option linter.unusedVariables false
set_option maxRecDepth 100000

def wdF (mn n : Nat) (o : Nat → Int) (l : Nat → Bool) (j : Nat) : Int :=
  if j < mn then (if plB n o l j then 4 * o (4 * j) else 4 * ((mn : Int) + 4 * j) + 1) else (if l (j - mn) then o (j - mn) + 8 else o (j - mn))
theorem wd_plain {mn n : Nat} {o : Nat → Int} {l : Nat → Bool} {j : Nat} (h : j < mn) (hp : plB n o l j = true) : wdF mn n o l j = 4 * o (4 * j) := by simp [wdF, h, hp]
theorem wd_part {mn n : Nat} {o : Nat → Int} {l : Nat → Bool} {j : Nat} (h : j < mn) (hp : plB n o l j = false) : wdF mn n o l j = 4 * ((mn : Int) + 4 * j) + 1 := by simp [wdF, h, hp]
theorem wd_own (mn n : Nat) (o : Nat → Int) (l : Nat → Bool) (j : Nat) : wdF mn n o l (mn + j) = (if l j then o j + 8 else o j) := by unfold wdF; rw [if_neg (by omega), Nat.add_sub_cancel_left]
def cellsOf (g : Nat → Int) (k : Nat) : List Value := (List.range k).map fun j => Value.int .i64 (g j)
theorem cellsOf_succ (g : Nat → Int) (k : Nat) : cellsOf g (k + 1) = cellsOf g k ++ [.int .i64 (g k)] := by simp [cellsOf, List.range_succ]
theorem cellsOf_at (g : Nat → Int) {j k : Nat} (h : j < k) : (cellsOf g k)[j]? = some (.int .i64 (g j)) := by simp [cellsOf, h]
theorem groups_v (n mn : Nat) (h1 : 1 ≤ n) (h2 : n ≤ 16) (hm : (n + 3) / 4 = mn) (w : World) : Calls Try.prog 29 #[.int .i64 n] w fun r w' => r = .returned (.int .i64 (mn : Int)) ∧ w = w' := by
  refine (groups_any n (by omega) (by omega) w).mono ?_
  rintro r w1 ⟨rfl, h⟩
  exact ⟨ret_int (by omega), h⟩
def BoxRel (mn n : Nat) (o : Nat → Int) (l : Nat → Bool) (w : World) (k : Nat) (wr : World) : Prop :=
  ∃ v, wr.heap[w.heap.size]? = some (.cells #[v] 45 (0, 0)) ∧ wr.ownsRow w.heap.size 3 1 v k (cellsOf (wdF mn n o l) k) ∧ Below w.heap.size w wr
def W1Rel (mn n : Nat) (o : Nat → Int) (l : Nat → Bool) (w : World) (v : Value) (wr : World) : Prop := ∃ k : Nat, k ≤ mn ∧ v = .int .i64 k ∧ BoxRel mn n o l w k wr
def W2Rel (mn n : Nat) (o : Nat → Int) (l : Nat → Bool) (w : World) (v : Value) (wr : World) : Prop := ∃ k : Nat, k ≤ n ∧ v = .int .i64 k ∧ BoxRel mn n o l w (mn + k) wr
theorem boxed {mn n : Nat} {o : Nat → Int} {l : Nat → Bool} {w wr w1 w2 : World} {k : Nat} {x : Int} (hB : Below w.heap.size w wr) (hx : x = wdF mn n o l k) (hb : Below w.heap.size wr w1)
    (h : ∃ v', w2.heap[w.heap.size]? = some (.cells #[v'] 45 (0, 0)) ∧ w2.ownsRow w.heap.size 3 1 v' (k + 1) (cellsOf (wdF mn n o l) k ++ [.int .i64 x]) ∧ Below w.heap.size w1 w2) : BoxRel mn n o l w (k + 1) w2 := by
  obtain ⟨v', a, b, c⟩ := h
  subst hx
  exact ⟨v', a, by rw [cellsOf_succ]; exact b, (hB.trans hb).trans c⟩
theorem box_next {w w' : World} {b : Nat} {o : Obj} (h : Below w.heap.size w w') (hb : w.heap[b]? = some o) : w'.heap[b]? = some o := (h.block b (lt_of_block hb)).trans hb
theorem ownsRow_next {w w' : World} {base n : Nat} {v : Value} {xs : List Value} (h : w.ownsRow base 3 1 v n xs) (hb : Below w.heap.size w w') : w'.ownsRow base 3 1 v n xs :=
  ⟨h.1, h.2.elim .inl fun ⟨g, cap, cur, hv, hg, hh, r⟩ => .inr ⟨g, cap, cur, hv, hg, (hb.block g (Array.getElem?_eq_some_iff.1 hh).1).trans hh, r⟩⟩
set_option maxHeartbeats 8000000 in
theorem words_any (mn P E n : Nat) (o : Nat → Int) (l : Nat → Bool) (h1 : 1 ≤ n) (hn : n ≤ 16) (hm : (n + 3) / 4 = mn) (ho : ∀ j, j < n → 0 ≤ o j ∧ o j ≤ 4) (w : World) (hT : Tb w P E n o l) :
    Calls Try.prog 19 #[.pointer (some ⟨P, 0, none⟩)] w fun r w' => ∃ v, r = .returned v ∧ w'.ownsRow w.heap.size 3 1 v (mn + n) (cellsOf (wdF mn n o l) (mn + n)) ∧ Below w.heap.size w w' := by
  have HT := hide hT
  obtain ⟨cp, hcp, c⟩ := hT.2.2.2.1
  have hEb := hT.2.1
  have hPb := hT.1
  clear hT
  replace ho := hide ho
  have hm1 : mn ≤ 4 := by omega
  have hm2 : ∀ k, k < mn → 4 * k < n := fun k hk => by omega
  replace hm2 := hide hm2
  have HM := hide hm
  clear hm
  go_enter Try.func19, Try.ntmps19
  go_wp2_with fail
  refine (groups_v n mn h1 hn HM.out _).mono ?_
  rintro r w1 ⟨rfl, rfl⟩
  go_wp2
  go_loopw [21] (fun v21 wr => W1Rel mn n o l w v21 wr) (fun v21 _ => mn - (intOf v21).toNat)
  case atStart => exact ⟨0, Nat.zero_le _, rfl, .slice none 0 0, heap_alloc_new _ _, World.ownsRow_nil _ _ _ _, (Below.refl _ _).alloc (Nat.le_refl _) _⟩
  case round =>
    obtain ⟨k, hk, rfl, v, hbox, hown, hB⟩ := hrel
    by_cases hlt : k < mn
    · have hk4 := hm2.out k hlt
      have ob := ho.out (4 * k) hk4
      obtain ⟨ob1, ob2⟩ := ob
      have hbl := lt_of_block hbox
      have TR := hide (HT.out.next hB)
      cases hp : plB n o l k
      · have HP := hide hp
        replace hp := hide hp
        go_wp2_with fail
        refine (plain_v P E n k o l hk4 hn _ HP.out _ TR.out).mono ?_
        rintro r w2 ⟨rfl, hb2⟩
        go_wp2_with fail
        refine (put_any (4 * ((mn : Int) + 4 * k)) 1 true (by omega) (by omega) (by omega) (by omega) _ rfl w.heap.size w.heap.size k v _ _ (box_next hb2 hbox) (ownsRow_next hown hb2) (by omega) (Nat.le_refl _)).mono ?_
        rintro r w3 ⟨rfl, h3⟩
        go_wp2
        go_roundw
        case rel => exact ⟨k + 1, by omega, int_eq (by omega), boxed hB (by rw [wd_part hlt HP.out]; rfl) (hb2.mono (Nat.le_of_lt hbl)) h3⟩
        case measure => simp [intOf]; omega
      · have HP := hide hp
        replace hp := hide hp
        go_wp2_with fail
        refine (plain_v P E n k o l hk4 hn _ HP.out _ TR.out).mono ?_
        rintro r w2 ⟨rfl, hb2⟩
        go_wp2_with fail
        refine (put_any (4 * o (4 * k)) 0 false (by omega) (by omega) (by omega) (by omega) _ rfl w.heap.size w.heap.size k v _ _ (box_next hb2 hbox) (ownsRow_next hown hb2) (by omega) (Nat.le_refl _)).mono ?_
        rintro r w3 ⟨rfl, h3⟩
        go_wp2
        go_roundw
        case rel => exact ⟨k + 1, by omega, int_eq (by omega), boxed hB (by rw [wd_plain hlt HP.out]; rfl) (hb2.mono (Nat.le_of_lt hbl)) h3⟩
        case measure => simp [intOf]; omega
    · obtain rfl : k = mn := by omega
      have c' := cell_next hB hPb c
      have BR := hide (show BoxRel k n o l w k _ from ⟨v, hbox, hown, hB⟩)
      clear hbox hown
      go_wp2
      go_loopw [48] (fun v48 wr => W2Rel k n o l w v48 wr) (fun v48 _ => n - (intOf v48).toNat)
      case atStart => exact ⟨0, Nat.zero_le _, rfl, BR.out⟩
      case round =>
        obtain ⟨j, hj, rfl, u, hbox, hown, hB⟩ := hrel
        by_cases hlj : j < n
        · have ob := ho.out j hlj
          obtain ⟨ob1, ob2⟩ := ob
          have hbl := lt_of_block hbox
          obtain ⟨a1, a2, a3, a4, a5⟩ := HT.out.next hB
          obtain ⟨d0, d1, -, -⟩ := a5 j hlj
          clear a5
          go_wp2_with fail
          refine (put_any (o j) 8 (l j) (by omega) (by omega) (by omega) (by omega) _ rfl w.heap.size w.heap.size (k + j) u _ _ (box_next ((Below.refl _ _).alloc (Nat.le_refl _) _) hbox) (hown.alloc _) (by omega) (Nat.le_refl _)).mono ?_
          rintro r w3 ⟨rfl, h3⟩
          go_wp2
          go_roundw
          case rel => exact ⟨j + 1, by omega, int_eq (by omega), boxed (k := k + j) hB (by rw [wd_own]) ((Below.refl _ _).alloc (Nat.le_of_lt hbl) _) h3⟩
          case measure => simp [intOf]; omega
        · obtain rfl : j = n := by omega
          have cb := cell_of_one hbox
          have fin := hide (show _ from (⟨hown, hB⟩ : _ ∧ _))
          clear hbox hown
          go_wp2
          go_ret
          exact ⟨u, rfl, fin.out⟩
end Go.Proofs.Ytdpdofdfdjcpoaa
