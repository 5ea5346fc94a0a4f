/- Check. -/
import Derived.Test.YtfiangiajhdhcaaDoorC
import Derived.WalkKit
import Derived.WalkSpells
import Derived.ProofKit
import Derived.Outline
import Derived.Handy
import Derived.RowKit3
import Derived.BigQuiet
import Derived.Deep.QuietTactic
import Derived.Deep.RegionHeld3
import Derived.Deep.Draws
import Derived.Deep.RegionLaw
import Derived.RegionTactic
import Derived.BigRegion
import Derived.IntWalk
import Derived.LoopTactic
import Derived.OwnWalk
import Derived.Laws.AppendOwn
import Derived.Laws.OwnMore
import Derived.Laws.MakeOwn
import Derived.Laws.Pointers
import Derived.Maps.AppendAt
import Derived.Deep.AppendLies
import Derived.Below
import Derived.RangeFuncNested
import Derived.RangeFuncBound
import Derived.RangeFuncCalls
import Derived.RangeFuncLeaves
import Derived.Shelf.Abstract
import Derived.LoopNIn
import Derived.LoopIn
import Derived.OwnWalkIn
import Derived.TacticsInMore
import Derived.Shelf.RegionOpen
namespace Go.Proofs.YtfiangiajhdhcaaDoor
open Go.Shelf Go.RowKit
set_option linter.unusedVariables false
set_option maxRecDepth 100000

def OpsIn (w : World) (av : Option Addr) (L : Nat) (A B C D : Nat → Int) : Prop := L = 0 ∨ ∃ b off, av = some ⟨b, off, none⟩ ∧ b < w.heap.size ∧ ∀ i, i < L → w.cell? ⟨b, off + i * 4, none⟩ = some (.int .i64 (A i)) ∧ w.cell? ⟨b, off + i * 4 + 1, none⟩ = some (.int .i64 (B i)) ∧ w.cell? ⟨b, off + i * 4 + 2, none⟩ = some (.int .i64 (C i)) ∧ w.cell? ⟨b, off + i * 4 + 3, none⟩ = some (.int .i64 (D i))
theorem OpsIn.next {w w' : World} {av : Option Addr} {L : Nat} {A B C D : Nat → Int} (h : OpsIn w av L A B C D) (hb : Below w.heap.size w w') : OpsIn w' av L A B C D := by
  rcases h with h | ⟨b, off, h1, h2, h3⟩
  · exact .inl h
  · exact .inr ⟨b, off, h1, Nat.lt_of_lt_of_le h2 hb.size, fun i hi => ⟨cell_next hb h2 (h3 i hi).1, cell_next hb h2 (h3 i hi).2.1, cell_next hb h2 (h3 i hi).2.2.1, cell_next hb h2 (h3 i hi).2.2.2⟩⟩
theorem OpsIn.fr {S : Nat → Prop} {w w' : World} {av : Option Addr} {L : Nat} {A B C D : Nat → Int} (h : OpsIn w av L A B C D) (f : Fr S w w') (hS : ∀ a, av = some a → ¬ S a.block) : OpsIn w' av L A B C D := by
  rcases h with h | ⟨b, off, h1, h2, h3⟩
  · exact .inl h
  · have hb := hS _ h1
    exact .inr ⟨b, off, h1, Nat.lt_of_lt_of_le h2 f.size, fun i hi => ⟨(f.cell h2 hb).trans (h3 i hi).1, (f.cell h2 hb).trans (h3 i hi).2.1, (f.cell h2 hb).trans (h3 i hi).2.2.1, (f.cell h2 hb).trans (h3 i hi).2.2.2⟩⟩
/-- The first of n instructions that is wrong (from 1 on), and what is wrong with it; else (0, 0). -/
def fstE (f : Nat → Int) : Nat → Int × Int
  | 0 => (0, 0)
  | n + 1 => if (fstE f n).1 ≠ 0 then fstE f n else if f n ≠ 0 then ((n : Int) + 1, f n) else (0, 0)
theorem fstE_none (f : Nat → Int) (n : Nat) (h : ∀ i, i < n → f i = 0) : fstE f n = (0, 0) := by
  induction n with
  | zero => rfl
  | succ n ih =>
    have h1 := ih (fun i hi => h i (by omega))
    unfold fstE
    rw [if_neg (by rw [h1]; simp), if_neg (by rw [h n (by omega)]; simp)]
theorem fstE_at (f : Nat → Int) (k : Nat) (h : ∀ i, i < k → f i = 0) (hk : f k ≠ 0) (n : Nat) (hn : k < n) : fstE f n = ((k : Int) + 1, f k) := by
  induction n with
  | zero => omega
  | succ n ih =>
    by_cases e : k = n
    · subst e
      unfold fstE
      rw [if_neg (by rw [fstE_none f k h]; simp), if_pos hk]
    · have h1 := ih (by omega)
      unfold fstE
      rw [h1, if_pos (by show ((k : Int) + 1) ≠ 0; omega)]
/-- What Check answers. -/
def chkE (L : Nat) (A B C D : Nat → Int) : Int × Int := if 32 < L then (0, 11) else fstE (fun i => mayE (A i) (B i) (C i) (D i) L) L
theorem Check_any (av : Option Addr) (L c : Nat) (A B C D : Nat → Int) (w : World) (T : Tab w) (hl : OpsIn w av L A B C D) : Calls Tryd.prog 43 #[.slice av L c] w fun r w' => r = .returned (.tuple #[.int .i64 (chkE L A B C D).1, .int .i64 (chkE L A B C D).2]) ∧ Below w.heap.size w w' := by
  by_cases h32 : 32 < L
  · have h1 : (32 : Int) < L := by omega
    have he : chkE L A B C D = (0, 11) := by unfold chkE; rw [if_pos h32]
    rw [he]
    clear hl
    go_enter Tryd.func43, Tryd.ntmps43
    go_wp2
    refine bodyPost_ret (v := .tuple #[.int .i64 0, .int .i64 11]) (by simp [results, Tryd.results43, go_sem]) rfl ?_
    exact ⟨rfl, Below.refl _ _⟩
  · have h1 : ¬ (32 : Int) < L := by omega
    have he : chkE L A B C D = fstE (fun i => mayE (A i) (B i) (C i) (D i) L) L := by unfold chkE; rw [if_neg h32]
    rw [he]
    have HL := hide hl
    have HT := hide T
    clear hl T he
    obtain ⟨f, hf⟩ : ∃ f : Nat → Int, f = fun i : Nat => mayE (A i) (B i) (C i) (D i) L := ⟨_, rfl⟩
    have HF := hide hf
    rw [← hf]
    clear hf
    go_enter Tryd.func43, Tryd.ntmps43
    go_wp2
    go_loopw [12] (fun v12 wr => ∃ k : Nat, k ≤ L ∧ v12 = .int .i64 k ∧ Below w.heap.size w wr ∧ ∀ i, i < k → f i = 0) (fun v12 _ => L - (intOf v12).toNat)
    case atStart => exact ⟨0, Nat.zero_le _, rfl, Below.refl _ _, fun i hi => by omega⟩
    case round =>
      obtain ⟨k, hk, rfl, hB, hz⟩ := hrel
      have HB := hide hB
      have HZ := hide hz
      clear hB hz
      by_cases hlt : k < L
      · rcases HL.out with h0 | ⟨ob, oo, rfl, hol, hop⟩
        · omega
        · obtain ⟨o0, o1, o2, o3⟩ := hop k hlt
          clear hop
          have x0 := cell_next HB.out hol o0
          have x1 := cell_next HB.out hol o1
          have x2 := cell_next HB.out hol o2
          have x3 := cell_next HB.out hol o3
          clear o0 o1 o2 o3
          go_wp2_with fail
          refine (May_any (A k) (B k) (C k) (D k) L _ ((HT.out.next HB.out).alloc _)).mono ?_
          rintro r w5 ⟨rfl, hb⟩
          have B5 := hide (below_step HB.out HB.out.size (below_alloc hb))
          have ek : f k = mayE (A k) (B k) (C k) (D k) L := by rw [HF.out]
          rw [← ek]
          have EK := hide ek
          clear hb ek
          by_cases hz : f k = 0
          · rw [hz]
            have HZK := hide hz
            clear hz
            go_wp2
            go_roundw
            case rel => exact ⟨k + 1, by omega, int_eq (by omega), B5.out, fun i hi => by
              by_cases e : i = k
              · rw [e]; exact HZK.out
              · exact HZ.out i (by omega)⟩
            case measure => simp [intOf]; omega
          · have HNZ := hide hz
            go_wp2
            refine bodyPost_ret (v := .tuple #[.int .i64 ((k : Int) + 1), .int .i64 (f k)]) (by simp [results, Tryd.results43, go_sem]) rfl ?_
            exact ⟨by rw [fstE_at f k HZ.out HNZ.out L hlt], B5.out⟩
      · obtain rfl : k = L := by omega
        go_wp2
        refine bodyPost_ret (v := .tuple #[.int .i64 0, .int .i64 0]) (by simp [results, Tryd.results43, go_sem]) rfl ?_
        exact ⟨by rw [fstE_none f k HZ.out], HB.out⟩
end Go.Proofs.YtfiangiajhdhcaaDoor
