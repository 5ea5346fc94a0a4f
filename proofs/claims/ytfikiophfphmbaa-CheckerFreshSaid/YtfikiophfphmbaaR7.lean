/- What the range in CheckerFresh holds on to. -/
import Derived.Test.YtfikiophfphmbaaR3
import Derived.Test.YtfikiophfphmbaaU1
import Derived.WalkKit
import Derived.WalkSpells
import Derived.ProofKit
import Derived.Outline
import Derived.Handy
import Derived.RowKit3
import Derived.BigQuiet
import Derived.Deep.QuietTactic
import Derived.Deep.RegionHeld3
import Derived.Deep.Draws
import Derived.Deep.RegionLaw
import Derived.RegionTactic
import Derived.BigRegion
import Derived.IntWalk
import Derived.LoopTactic
import Derived.OwnWalk
import Derived.Laws.AppendOwn
import Derived.Laws.OwnMore
import Derived.Laws.MakeOwn
import Derived.Laws.Pointers
import Derived.Maps.AppendAt
import Derived.Deep.AppendLies
import Derived.Below
import Derived.RangeFuncNested
import Derived.RangeFuncBound
import Derived.RangeFuncCalls
import Derived.RangeFuncLeaves
import Derived.Shelf.Abstract
import Derived.LoopNIn
import Derived.LoopIn
import Derived.OwnWalkIn
import Derived.TacticsInMore
namespace Go.Proofs.Ytfikiophfphmbaa
open Go.RowKit
set_option linter.unusedVariables false
set_option maxRecDepth 100000

theorem kf_set (B : Nat) (W W1 : World) (h : W1.heap = W.heap) (a : Addr) (u : Value) : KeepsFrom B W (W1.setCell a u) := by
  have := (KeepsOthers.setCell W1 a u).from B
  exact ⟨by rw [← h]; exact this.size, fun k o hB hk ho => this.same k o hB (by rw [h]; exact hk) ho⟩
theorem kf_below {B : Nat} {W X : World} (h : Below W.heap.size W X) : KeepsFrom B W X := ⟨h.size, fun k o _ hk _ => (h.block k (Array.getElem?_eq_some_iff.1 hk).1).trans hk⟩
section
variable {w0 w w' : World} {F : List (Nat × Obj)} {P en gs T E : Nat} {o o' : Nat → Int} {l l' : Nat → Bool} {ws st ws' st' : Bool} {gr at_ gr' at' : Int} {v v' : Value} {ks ks' : List (Int × Int)}
theorem set_z (z : Int) (j : Nat) (hz : z = j) (x : Int) (b : Bool) (hj : j < gs) (hx : decide (0 ≤ x ∧ x ≤ 4) = true) (w : World) (hT : Tb w T E gs o l) :
    Calls Try.prog 11 #[.pointer (some ⟨T, 0, none⟩), .int .i64 z, .agg #[.int .i64 x, .bool b]] w fun r w' => r = .returned (.int .i64 0) ∧ Tb w' T E gs (upd o j x) (upd l j b) ∧ w.grownBy w' (some E) := by
  subst hz
  exact set_yes T E gs j o l x b hj hx w hT
theorem set_no (z : Int) (x : Int) (b : Bool) (h : ¬ ((0 ≤ z ∧ z < gs) ∧ 0 ≤ x ∧ x ≤ 4)) (w : World) (hT : Tb w T E gs o l) :
    Calls Try.prog 11 #[.pointer (some ⟨T, 0, none⟩), .int .i64 z, .agg #[.int .i64 x, .bool b]] w fun r w' => r = .returned (.int .i64 10) ∧ Below w.heap.size w w' := by
  by_cases hz : 0 ≤ z ∧ z < gs
  · obtain ⟨j, rfl⟩ : ∃ j : Nat, z = j := ⟨z.toNat, by omega⟩
    exact set_bad T E gs j o l x b (by omega) (decide_eq_false (fun e => h ⟨hz, e⟩)) w hT
  · exact set_out T E gs z o l x b hz w hT
theorem word_z (mn : Nat) (z : Int) (j : Nat) (hz : z = j) (h1 : 1 ≤ gs) (hn : gs ≤ 16) (hm : (gs + 3) / 4 = mn) (ho : ∀ j, 0 ≤ o j ∧ o j ≤ 4) (hj : j < mn + gs) (w : World) (hT : Tb w T E gs o l) :
    Calls Try.prog 14 #[.pointer (some ⟨T, 0, none⟩), .int .i64 z] w fun r w' => r = .returned (.tuple #[.int .i64 (wdF mn gs o l j), .int .i64 0]) ∧ Below w.heap.size w w' := by
  subst hz
  exact word_in mn T E gs j o l _ h1 hn hm ho hj rfl w hT
/-- What is fixed stays where none of its blocks turns. -/
theorem Fs.fr {S : Nat → Prop} {N : Nat} (h : Fs w0 w F P en gs T E o l ws st gr at_ v ks) (f : Fr S w w') (hS : ∀ b, S b → N ≤ b) (n1 : ∀ b, Ck.S P v b → b < N) (n2 : T < N) (n3 : E < N) (n4 : ∀ p ∈ F, p.1 < N) (n5 : w0.heap.size ≤ N) : Fs w0 w' F P en gs T E o l ws st gr at_ v ks := by
  have hS' : ∀ b, b < N → ¬ S b := fun b hb e => by have := hS b e; omega
  refine ⟨h.k.fr f (fun b e => hS' b (n1 b e)), h.t.fr f (hS' _ n2) (hS' _ n3), h.nT, h.nE, fun p hp => ?_, h.lk, h.lE, h.bel.trans (f.below h.bel.size (fun i hi => hS' i (by omega)))⟩
  obtain ⟨h1, h2, h3⟩ := h.fx p hp
  exact ⟨(f.block _ (Array.getElem?_eq_some_iff.1 h1).1 (hS' _ (n4 p hp))).trans h1, h2, h3⟩
end
theorem zero_seen : ∃ cs : Array Value, (∀ W, (zeroValue 45).run Try.prog W = .ok (.agg cs) W) ∧ cs = Array.replicate 16 (.bool false) :=
  ⟨_, fun W => by kernel_rfl, rfl⟩
/-- What was seen of what is known. -/
def Seen {ks : List (Int × Int)} (pre : List (Mk ks)) (j : Nat) : Bool := pre.any fun y => y.1.1 == (j : Int)
def Ik (w0 : World) (F : List (Nat × Obj)) (P en gs T E : Nat) (o : Nat → Int) (l : Nat → Bool) (ws st : Bool) (gr at_ : Int) (v : Value) (ks : List (Int × Int)) (nb sb : Nat) (pre : List (Mk ks)) (W : World) : Prop :=
  Fs w0 W F P en gs T E o l ws st gr at_ v ks ∧ W.cell? ⟨nb, 0, none⟩ = some (.int .i64 (pre.length : Int)) ∧ W.frozen? ⟨nb, 0, none⟩ = false ∧ (∀ j, j < 16 → W.cell? ⟨sb, j, none⟩ = some (.bool (Seen pre j))) ∧ (∀ j, W.frozen? ⟨sb, j, none⟩ = false) ∧ nb < W.heap.size ∧ sb < W.heap.size
def Dup {ks : List (Int × Int)} (pre : List (Mk ks)) (_W : World) : Prop := ¬ pre.Pairwise fun x y => x.1.1 ≠ y.1.1
theorem Ik.own {w0 : World} {F : List (Nat × Obj)} {P en gs T E : Nat} {o : Nat → Int} {l : Nat → Bool} {ws st : Bool} {gr at_ : Int} {v : Value} {ks : List (Int × Int)} {nb sb N : Nat} (n1 : ∀ b, Ck.S P v b → b < N) (n2 : T < N) (n3 : E < N) (n4 : ∀ p ∈ F, p.1 < N) (n5 : w0.heap.size ≤ N) (n6 : nb < N) (n7 : sb < N) : OwnFrom N (Ik w0 F P en gs T E o l ws st gr at_ v ks nb sb) := by
  rintro s A B row ⟨h1, h2, h3, h4, h5, h6, h7⟩ hg hr
  have f : Fr (fun k => row = some k) A B := ⟨hg.os, hg.tape, hg.output, hg.size, fun i hi hn => hg.block i hi (fun e => hn e.symm)⟩
  have q : ∀ k, k < N → ¬ row = some k := fun k hk e => by have := (hr k e).1; omega
  exact ⟨h1.fr (N := N) f (fun b e => (hr b e).1) n1 n2 n3 n4 n5, (f.cell h6 (q _ n6)).trans h2, (f.frozen h6 (q _ n6)).trans h3, fun j hj => (f.cell h7 (q _ n7)).trans (h4 j hj), fun j => (f.frozen h7 (q _ n7)).trans (h5 j), Nat.lt_of_lt_of_le h6 hg.size, Nat.lt_of_lt_of_le h7 hg.size⟩
theorem seen_snoc {ks : List (Int × Int)} (pre : List (Mk ks)) (x : Mk ks) (j i : Nat) (hx : x.1.1 = (j : Int)) : Seen (pre ++ [x]) i = if i = j then true else Seen pre i := by
  unfold Seen
  rw [List.any_append]
  by_cases e : i = j
  · subst e; simp [hx]
  · rw [if_neg e]
    have : ((j : Int) == (i : Int)) = false := by rw [beq_eq_false_iff_ne]; omega
    simp [hx, this]
theorem dup_of {ks : List (Int × Int)} (pre : List (Mk ks)) (x : Mk ks) (j : Nat) (hx : x.1.1 = (j : Int)) (h : Seen pre j = true) (W : World) : Dup (pre ++ [x]) W := by
  intro hp
  rw [List.pairwise_append] at hp
  obtain ⟨y, hy, he⟩ := List.any_eq_true.1 h
  exact hp.2.2 y hy x (List.mem_singleton_self _) (by rw [hx]; simpa using he)
theorem no_dup {ks : List (Int × Int)} (hk : ks.Pairwise fun x y => x.1 ≠ y.1) (pre : List (Mk ks)) (W : World) (hp : ∃ k, pre = ks.attach.take k) (hd : Dup pre W) : False := by
  obtain ⟨k, rfl⟩ := hp
  refine hd ?_
  have h1 : ks.attach.Pairwise (fun x y => x.1.1 ≠ y.1.1) := by
    have h2 : (ks.attach.map Subtype.val).Pairwise (fun x y => x.1 ≠ y.1) := by rw [List.attach_map_subtype_val]; exact hk
    exact (List.pairwise_map (f := Subtype.val) (R := fun (x y : Int × Int) => x.1 ≠ y.1)).1 h2
  exact h1.sublist (List.take_sublist _ _)
theorem Ik.step {w0 Wb W5 : World} {F : List (Nat × Obj)} {P en gs T E : Nat} {o : Nat → Int} {l : Nat → Bool} {ws st : Bool} {gr at_ : Int} {v : Value} {ks : List (Int × Int)} {nb N : Nat} {pre : List (Mk ks)} (h : Ik w0 F P en gs T E o l ws st gr at_ v ks nb (nb + 1) pre Wb) (hb : Below Wb.heap.size Wb W5) (x : Mk ks) (j : Nat) (hx : x.1.1 = (j : Int)) (hj : j < 16) (n1 : ∀ b, Ck.S P v b → b < N) (n2 : T < N) (n3 : E < N) (n4 : ∀ p ∈ F, p.1 < N) (n5 : w0.heap.size ≤ N) (n6 : N ≤ nb) :
    Ik w0 F P en gs T E o l ws st gr at_ v ks nb (nb + 1) (pre ++ [x]) ((W5.setCell ⟨nb + 1, j, none⟩ (.bool true)).setCell ⟨nb, 0, none⟩ (.int .i64 ((pre.length : Int) + 1))) := by
  obtain ⟨h1, h2, h3, h4, h5, h6, h7⟩ := h
  have f : Fr (fun b => b = nb + 1 ∨ b = nb) W5 ((W5.setCell ⟨nb + 1, j, none⟩ (.bool true)).setCell ⟨nb, 0, none⟩ (.int .i64 ((pre.length : Int) + 1))) := ((Fr.refl (fun b => b = nb + 1 ∨ b = nb) W5).setCell (p := ⟨nb + 1, j, none⟩) (fun _ => .inl rfl) _).setCell (p := ⟨nb, 0, none⟩) (fun _ => .inr rfl) _
  have c2 := cell_next hb h6 h2
  have c4 := fun i hi => cell_next hb h7 (h4 i hi)
  have z5 := hb.size
  refine ⟨(h1.next hb).fr (N := N) f (fun b e => by rcases e with e | e <;> omega) n1 n2 n3 n4 n5, ?_, ?_, fun i hi => ?_, fun i => ?_, by have := f.size; omega, by have := f.size; omega⟩
  · rw [World.cell?_setCell_same' _ _ _ (by rw [setCell_cell_other (by intro e; injection e; omega), c2]; rfl)]
    simp
  · rw [World.frozen?_setCell, World.frozen?_setCell, hb.frozen (p := ⟨nb, 0, none⟩) h6]; exact h3
  · rw [setCell_cell_other (by intro e; injection e; omega), seen_snoc pre x j i hx]
    by_cases e : i = j
    · subst e
      rw [if_pos rfl, World.cell?_setCell_same' _ _ _ (by rw [c4 i hi]; rfl)]
    · rw [if_neg e, setCell_cell_other (by intro e2; injection e2; omega)]
      exact c4 i hi
  · rw [World.frozen?_setCell, World.frozen?_setCell, hb.frozen (p := ⟨nb + 1, i, none⟩) h7]; exact h5 i
theorem Ik.next {w0 W W' : World} {F : List (Nat × Obj)} {P en gs T E : Nat} {o : Nat → Int} {l : Nat → Bool} {ws st : Bool} {gr at_ : Int} {v : Value} {ks : List (Int × Int)} {nb sb : Nat} {pre : List (Mk ks)} (h : Ik w0 F P en gs T E o l ws st gr at_ v ks nb sb pre W) (hb : Below W.heap.size W W') : Ik w0 F P en gs T E o l ws st gr at_ v ks nb sb pre W' := by
  obtain ⟨h1, h2, h3, h4, h5, h6, h7⟩ := h
  exact ⟨h1.next hb, cell_next hb h6 h2, (hb.frozen (p := ⟨nb, 0, none⟩) h6).trans h3, fun j hj => cell_next hb h7 (h4 j hj), fun j => (hb.frozen (p := ⟨sb, j, none⟩) h7).trans (h5 j), Nat.lt_of_lt_of_le h6 hb.size, Nat.lt_of_lt_of_le h7 hb.size⟩
/-- Deferred entries that nobody asked for are let go, one by one. -/
theorem leaves_ds {F : Fence} {n : Nat} {P : Program} {fn : Func} {tmps : Array Value} {R : Ending → World → Prop} : ∀ (Ds : List Nat) (W : World), Ds.Nodup → (∀ D ∈ Ds, W.heap[D]? = some (.deferred (some []))) →
    (∀ W', Fr (fun k => k ∈ Ds) W W' → LeavesIn F n P fn tmps R [] .returning W') → LeavesInM F n P fn tmps R (Ds.map ent) .returning W := by
  intro Ds
  induction Ds with
  | nil => intro W _ _ h; exact h W (Fr.refl _ _)
  | cons D Ds ih =>
    intro W hn hD h
    rw [List.nodup_cons] at hn
    refine ⟨by simp, .inl ⟨D, W.putObj D (.deferred none), rfl, run_takeDeferred (hD D (by simp)), ?_⟩⟩
    have f0 : Fr (fun k => k ∈ D :: Ds) W (W.putObj D (.deferred none)) := ⟨rfl, rfl, rfl, by simp, fun i hi hni => World.putObj_heap_other (by rintro rfl; exact hni (by simp))⟩
    refine ih _ hn.2 (fun E hE => ?_) (fun W' f => h W' (f0.trans f (fun i _ hi => List.mem_cons_of_mem _ hi)))
    exact (World.putObj_heap_other (by rintro rfl; exact hn.1 hE)).trans (hD E (List.mem_cons_of_mem _ hE))
end Go.Proofs.Ytfikiophfphmbaa
