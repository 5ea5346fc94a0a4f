/- The laws of layer 9 (checker): a checker and a table. -/
import Derived.Test.YtfikiophfphmbaaU1
import Derived.Test.YtfikiophfphmbaaN9
import Derived.Test.YtfikiophfphmbaaC4
import Derived.Test.YtfikiophfphmbaaP1
import Derived.WalkKit
import Derived.WalkSpells
import Derived.ProofKit
import Derived.Outline
import Derived.Handy
import Derived.RowKit3
import Derived.BigQuiet
import Derived.Deep.QuietTactic
import Derived.Deep.RegionHeld3
import Derived.Deep.Draws
import Derived.Deep.RegionLaw
import Derived.RegionTactic
import Derived.BigRegion
import Derived.IntWalk
import Derived.LoopTactic
import Derived.OwnWalk
import Derived.Laws.AppendOwn
import Derived.Laws.OwnMore
import Derived.Laws.MakeOwn
import Derived.Laws.Pointers
import Derived.Maps.AppendAt
import Derived.Deep.AppendLies
import Derived.Below
namespace Go.Proofs.Ytfikiophfphmbaa
open Go.RowKit
set_option linter.unusedVariables false
set_option maxRecDepth 100000

theorem Tb.fr {S : Nat → Prop} {w w' : World} {P E n : Nat} {o : Nat → Int} {l : Nat → Bool} (h : Tb w P E n o l) (f : Fr S w w') (nP : ¬ S P) (nE : ¬ S E) : Tb w' P E n o l := by
  obtain ⟨h1, h2, h3, h4, h5⟩ := h
  exact ⟨Nat.lt_of_lt_of_le h1 f.size, Nat.lt_of_lt_of_le h2 f.size, h3, h4.imp fun cp h => ⟨h.1, (f.cell h1 nP).trans h.2⟩, fun j hj => ⟨(f.cell h2 nE).trans (h5 j hj).1, (f.cell h2 nE).trans (h5 j hj).2.1, (f.frozen h2 nE).trans (h5 j hj).2.2.1, (f.frozen h2 nE).trans (h5 j hj).2.2.2⟩⟩
/-- A checker and a table, that do not share; what A holds stays. -/
structure Gw (A : Nat → Prop) (w0 w : World) (P en gs T E : Nat) (o : Nat → Int) (l : Nat → Bool) (ws st : Bool) (gr at_ : Int) (v : Value) (ks : List (Int × Int)) : Prop where
  k : Ck w P ws st gr at_ en gs v ks
  t : Tb w T E gs o l
  lk : ∀ b, Ck.S P v b → ¬ A b
  tA : A T
  eA : A E
  al : ∀ b, A b → b < w0.heap.size
  bel : Fr (fun b => ¬ A b) w0 w
section
variable {A : Nat → Prop} {w0 w w' : World} {P en gs T E : Nat} {o : Nat → Int} {l : Nat → Bool} {ws st ws' st' : Bool} {gr at_ gr' at' : Int} {v v' : Value} {ks ks' : List (Int × Int)}
theorem Gw.next (h : Gw A w0 w P en gs T E o l ws st gr at_ v ks) (b : Below w.heap.size w w') : Gw A w0 w' P en gs T E o l ws st gr at_ v ks :=
  ⟨h.k.next b, h.t.next b, h.lk, h.tA, h.eA, h.al, h.bel.trans (Fr.of_below (S := fun _ => False) b) (fun _ _ e => e.elim)⟩
theorem Gw.ck (h : Gw A w0 w P en gs T E o l ws st gr at_ v ks) (k : Ck w' P ws' st' gr' at' en gs v' ks') (f : Fr (Ck.S P v) w w') (s : ∀ b, Ck.S P v' b → Ck.S P v b ∨ w.heap.size ≤ b) : Gw A w0 w' P en gs T E o l ws' st' gr' at' v' ks' :=
  ⟨k, h.t.fr f (fun e => h.lk _ e h.tA) (fun e => h.lk _ e h.eA), fun b e a => (s b e).elim (fun e => h.lk b e a) (fun e => by have := h.al b a; have := h.bel.size; omega), h.tA, h.eA, h.al, h.bel.trans f (fun b _ e => h.lk b e)⟩
theorem Gw.ckP (h : Gw A w0 w P en gs T E o l ws st gr at_ v ks) (k : Ck w' P ws' st' gr' at' en gs v ks') (f : Fr (fun b => b = P) w w') : Gw A w0 w' P en gs T E o l ws' st' gr' at' v ks' :=
  h.ck k (f.mono (fun _ _ e => .inl e)) (fun _ e => .inl e)
theorem Gw.cell (h : Gw A w0 w P en gs T E o l ws st gr at_ v ks) {b i : Nat} (a : A b) : w.cell? ⟨b, i, none⟩ = w0.cell? ⟨b, i, none⟩ := h.bel.cell (h.al b a) (fun n => n a)
/-- An entry of the law's own. -/
structure Xc (w : World) (X P : Nat) (v : Value) (xo : Int) (xl : Bool) : Prop where
  lt : X < w.heap.size
  c0 : w.cell? ⟨X, 0, none⟩ = some (.int .i64 xo)
  c1 : w.cell? ⟨X, 1, none⟩ = some (.bool xl)
  n : ¬ Ck.S P v X
theorem Xc.next {X : Nat} {xo : Int} {xl : Bool} (h : Xc w X P v xo xl) (b : Below w.heap.size w w') : Xc w' X P v xo xl := ⟨Nat.lt_of_lt_of_le h.lt b.size, cell_next b h.lt h.c0, cell_next b h.lt h.c1, h.n⟩
theorem Xc.ck {X : Nat} {xo : Int} {xl : Bool} (h : Xc w X P v xo xl) (f : Fr (Ck.S P v) w w') (s : ∀ b, Ck.S P v' b → Ck.S P v b ∨ w.heap.size ≤ b) : Xc w' X P v' xo xl := ⟨Nat.lt_of_lt_of_le h.lt f.size, (f.cell h.lt h.n).trans h.c0, (f.cell h.lt h.n).trans h.c1, fun e => (s X e).elim h.n (fun e => by have := h.lt; omega)⟩
theorem Xc.ckP {X : Nat} {xo : Int} {xl : Bool} (h : Xc w X P v xo xl) (f : Fr (fun b => b = P) w w') : Xc w' X P v xo xl := h.ck (f.mono (fun _ _ e => .inl e)) (fun _ e => .inl e)
theorem get_v (x : Int) (b : Bool) {n j : Nat} (hj : j < n) (hx : o j = x) (hb : l j = b) (w : World) (hT : Tb w T E n o l) : Calls Try.prog 17 #[.pointer (some ⟨T, 0, none⟩), .int .i64 j] w fun r w' => r = .returned (.tuple #[.agg #[.int .i64 x, .bool b], .int .i64 0]) ∧ Below w.heap.size w w' := by
  subst hx
  subst hb
  exact get_yes T E n j o l hj w hT
theorem tmay_v (world owner : Int) (v : Bool) (hv : decide ((0 ≤ world ∧ world ≤ 3) ∧ (0 ≤ owner ∧ owner ≤ 4) ∧ (world = 0 ∨ owner = world ∨ owner = 4)) = v) (w : World) : Calls Try.prog 23 #[.int .i64 world, .int .i64 owner] w fun r w' => r = .returned (.bool v) ∧ w = w' := by
  subst hv
  exact table_may world owner w
theorem walking_no (w : World) (h : Ck w P false st gr at_ en gs v ks) : Calls Try.prog 18 #[.pointer (some ⟨P, 0, none⟩)] w fun r w' => r = .returned (.tuple #[.int .i64 0, .int .i64 0, .bool false]) ∧ Below w.heap.size w w' := by
  have c0 := h.c0
  clear h
  go_enter Try.func18, Try.ntmps18
  go_wp2
  go_ret3
  exact ⟨rfl, Below.refl _ _⟩
theorem walking_yes (w : World) (h : Ck w P true st gr at_ en gs v ks) : Calls Try.prog 18 #[.pointer (some ⟨P, 0, none⟩)] w fun r w' => r = .returned (.tuple #[.int .i64 gr, .int .i64 at_, .bool true]) ∧ Below w.heap.size w w' := by
  have c0 := h.c0
  have c2 := h.c2
  have c3 := h.c3
  clear h
  go_enter Try.func18, Try.ntmps18
  go_wp2_with (go_quiet (fail))
  go_ret3
  exact ⟨rfl, below_drewN (Below.refl _ _) _⟩
/-- A granule that no one knows is learned. -/
theorem walked_learn (g : Nat) (o word : Int) (he1 : 1 ≤ en) (hN : ∀ W, Calls Try.prog 35 #[.int .i64 gs, .int .i64 g, .int .i64 at_, .int .i64 word] W fun r w' => r = .returned (.tuple #[.int .i64 0, .agg #[.int .i64 o, .bool false], .bool true, .int .i64 0]) ∧ Below W.heap.size W w') (hlt : ∀ x ∈ ks, x.1 < (g : Int)) (w : World) (h : Ck w P true false g at_ en gs v ks) :
    Calls Try.prog 15 #[.pointer (some ⟨P, 0, none⟩), .int .i64 at_, .int .i64 word] w fun r w' => r = .returned (.tuple #[.int .i64 0, .bool true, .int .i64 0]) ∧ ∃ v' ks' j, Ck w' P false false 0 0 en gs v' ks' ∧ Fr (Ck.S P v) w w' ∧ (∀ k, Ck.S P v' k → Ck.S P v k ∨ w.heap.size ≤ k) ∧ ks'[j]? = some ((g : Int), o) ∧ (∀ (i : Nat) (x : Int × Int), i < j → ks'[i]? = some x → x.1 ≠ (g : Int)) ∧ ∀ x ∈ ks', x.1 < ((g + 1 : Nat) : Int) := by
  have key : ∀ l : List (Int × Int), (∀ x ∈ l, x.1 < (g : Int)) → (l ++ [((g : Int), o)])[l.length]? = some ((g : Int), o) ∧ (∀ (i : Nat) (x : Int × Int), i < l.length → (l ++ [((g : Int), o)])[i]? = some x → x.1 ≠ (g : Int)) ∧ ∀ x ∈ l ++ [((g : Int), o)], x.1 < ((g + 1 : Nat) : Int) := by
    intro l hl
    refine ⟨by simp, fun i x hi hx => ?_, fun x hx => ?_⟩
    · rw [List.getElem?_append_left hi] at hx
      have := hl x (List.mem_of_getElem? hx)
      omega
    · rcases List.mem_append.1 hx with hx | hx
      · have := hl x hx; omega
      · simp at hx; subst hx; show (g : Int) < _; omega
  by_cases hroom : ks.length < en
  · exact (walked_done 0 o word hN hroom w h).mono fun r w' ⟨e, v', k, f, s⟩ => ⟨e, v', _, _, k, f, s, (key ks hlt).1, (key ks hlt).2.1, (key ks hlt).2.2⟩
  · cases ks with
    | nil => simp at hroom; omega
    | cons x ks =>
      have hle := h.le
      have hl : ks.length + 1 = en := by simp at hroom hle; omega
      have hlt' : ∀ y ∈ ks, y.1 < (g : Int) := fun y hy => hlt y (List.mem_cons_of_mem _ hy)
      exact (walked_full 0 o word x hN hl w h).mono fun r w' ⟨e, v', k, f, s⟩ => ⟨e, v', _, _, k, f, s, (key ks hlt').1, (key ks hlt').2.1, (key ks hlt').2.2⟩
end
end Go.Proofs.Ytfikiophfphmbaa
