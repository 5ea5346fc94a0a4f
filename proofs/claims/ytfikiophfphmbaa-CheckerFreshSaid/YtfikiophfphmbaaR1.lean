/- What CheckerFresh holds on to. -/
import Derived.Test.YtfikiophfphmbaaZ3
import Derived.Test.YtfikiophfphmbaaP2
import Derived.WalkKit
import Derived.WalkSpells
import Derived.ProofKit
import Derived.Outline
import Derived.Handy
import Derived.RowKit3
import Derived.BigQuiet
import Derived.Deep.QuietTactic
import Derived.Deep.RegionHeld3
import Derived.Deep.Draws
import Derived.Deep.RegionLaw
import Derived.RegionTactic
import Derived.BigRegion
import Derived.IntWalk
import Derived.LoopTactic
import Derived.OwnWalk
import Derived.Laws.AppendOwn
import Derived.Laws.OwnMore
import Derived.Laws.MakeOwn
import Derived.Laws.Pointers
import Derived.Maps.AppendAt
import Derived.Deep.AppendLies
import Derived.Below
namespace Go.Proofs.Ytfikiophfphmbaa
open Go.RowKit
set_option linter.unusedVariables false
set_option maxRecDepth 100000

theorem erase_gone {ks : List (Int × Int)} {g o : Int} {j : Nat} (h1 : ks[j]? = some (g, o)) (h2 : ∀ i x, i < j → ks[i]? = some x → x.1 ≠ g) (h3 : ∀ i x, j < i → ks[i]? = some x → x.1 ≠ g) : ∀ x ∈ ks.eraseIdx j, x.1 ≠ g := by
  intro x hx
  obtain ⟨i, hi⟩ := List.mem_iff_getElem?.1 hx
  rw [List.getElem?_eraseIdx] at hi
  split at hi
  · exact h2 i x (by omega) hi
  · exact h3 (i + 1) x (by omega) hi
section
variable {P en gs : Nat} {ws st : Bool} {gr at_ : Int} {v : Value} {ks : List (Int × Int)}
/-- What Drop of a number that is not below 0 leaves. -/
def DropX (P en gs : Nat) (ws st : Bool) (gr at_ : Int) (v : Value) (ks : List (Int × Int)) (g : Int) (w : World) (r : Ending) (w' : World) : Prop := (∃ n e, r = .returned (.tuple #[.int .i64 n, .int .i64 e])) ∧ ∃ st' v' ks', Ck w' P ws st' gr at_ en gs v' ks' ∧ ks'.Sublist ks ∧ (0 ≤ g ∧ g < gs → (∀ x ∈ ks', x.1 ≠ g) ∧ (ws = true → gr = g → st' = true)) ∧ (st' = false → st = false) ∧ Fr (Ck.S P v) w w' ∧ ∀ b, Ck.S P v' b → Ck.S P v b
theorem drop_x (g : Int) (hm : 0 ≤ g) (w : World) (h : Ck w P ws st gr at_ en gs v ks) (i : Inv gs ws gr ks) : Calls Try.prog 12 #[.pointer (some ⟨P, 0, none⟩), .int .i64 g] w (DropX P en gs ws st gr at_ v ks g w) := by
  by_cases hg : 0 ≤ g ∧ g < gs
  · obtain ⟨n, rfl⟩ : ∃ n : Nat, g = n := ⟨g.toNat, by omega⟩
    have hn : n < gs := by omega
    rcases known_or ks (n : Int) with hno | ⟨j, o, h1, h2⟩
    · cases ws
      · exact (drop_still w n hn hno h).mono fun r w' ⟨e, k, f⟩ => ⟨⟨_, _, e⟩, _, _, _, k, List.Sublist.refl _, fun _ => ⟨hno, fun e => by cases e⟩, id, f.mono (fun _ _ e => .inl e), fun _ e => e⟩
      · by_cases hgr : gr = (n : Int)
        · subst hgr
          exact (drop_walk w n hn hno h).mono fun r w' ⟨e, k, f⟩ => ⟨⟨_, _, e⟩, _, _, _, k, List.Sublist.refl _, fun _ => ⟨hno, fun _ _ => rfl⟩, (fun e => by cases e), f.mono (fun _ _ e => .inl e), fun _ e => e⟩
        · exact (drop_other w n hgr hn hno h).mono fun r w' ⟨e, k, f⟩ => ⟨⟨_, _, e⟩, _, _, _, k, List.Sublist.refl _, fun _ => ⟨hno, fun _ e => absurd e hgr⟩, id, f.mono (fun _ _ e => .inl e), fun _ e => e⟩
    · have h3 := i.later h1
      cases ws
      · exact (drop_still_yes w n hn j o h1 h2 h3 h).mono fun r w' ⟨e, v', k, f, s⟩ => ⟨⟨_, _, e⟩, _, _, _, k, List.eraseIdx_sublist _ _, fun _ => ⟨erase_gone h1 h2 h3, fun e => by cases e⟩, id, f, fun b hb => hb.imp id (fun q => by rw [← s]; exact q)⟩
      · have hgr : gr ≠ (n : Int) := by
          intro e
          obtain ⟨g', e1, e2, e3⟩ := i.w rfl
          exact e3 _ (List.mem_of_getElem? h1) (e.symm.trans e1)
        exact (drop_other_yes w n hgr hn j o h1 h2 h3 h).mono fun r w' ⟨e, v', k, f, s⟩ => ⟨⟨_, _, e⟩, _, _, _, k, List.eraseIdx_sublist _ _, fun _ => ⟨erase_gone h1 h2 h3, fun _ e => absurd e hgr⟩, id, f, fun b hb => hb.imp id (fun q => by rw [← s]; exact q)⟩
  · exact (drop_range g hg (by omega) w h).mono fun r w' ⟨e, b⟩ => ⟨⟨_, _, e⟩, _, _, _, h.next b, List.Sublist.refl _, fun e => absurd e hg, id, Fr.of_below b, fun _ e => e⟩
end
/-- A word that tells what is so of a granule. -/
def Good (mn : Nat) (o : Nat → Int) (l : Nat → Bool) (g : Nat) (pl wd : Int) : Prop := (pl = ((g / 4 : Nat) : Int) ∧ ((wd = 4 * o g ∧ l g = false) ∨ wd = 4 * ((mn : Int) + 4 * ((g / 4 : Nat) : Int)) + 1)) ∨ (pl = (mn : Int) + g ∧ wd = if l g then o g + 8 else o g)
theorem good_of {gs mn g : Nat} {o : Nat → Int} {l : Nat → Bool} (hm : (gs + 3) / 4 = mn) (hg : g < gs) (hq : g / 4 < mn) : Good mn o l g ((g / 4 : Nat) : Int) (wdF mn gs o l (g / 4)) ∧ Good mn o l g ((mn : Int) + g) (wdF mn gs o l (mn + g)) := by
  refine ⟨.inl ⟨rfl, ?_⟩, .inr ⟨rfl, wd_own _ _ _ _ _⟩⟩
  cases hp : plB gs o l (g / 4)
  · exact .inr (wd_part hq hp)
  · have hpl := (plB_iff gs o l (g / 4)).1 hp (g - 4 * (g / 4)) (by omega) (by omega)
    rw [show 4 * (g / 4) + (g - 4 * (g / 4)) = g by omega] at hpl
    exact .inl ⟨by rw [wd_plain hq hp, hpl.1], hpl.2⟩
/-- What the law of CheckerFresh holds on to. -/
structure Fs (w0 w : World) (F : List (Nat × Obj)) (P en gs T E : Nat) (o : Nat → Int) (l : Nat → Bool) (ws st : Bool) (gr at_ : Int) (v : Value) (ks : List (Int × Int)) : Prop where
  k : Ck w P ws st gr at_ en gs v ks
  t : Tb w T E gs o l
  nT : ¬ Ck.S P v T
  nE : ¬ Ck.S P v E
  fx : ∀ p ∈ F, w.heap[p.1]? = some p.2 ∧ p.1 ≠ E ∧ ¬ Ck.S P v p.1
  lk : ∀ b, Ck.S P v b → w0.heap.size ≤ b
  lE : w0.heap.size ≤ E
  bel : Below w0.heap.size w0 w
section
variable {w0 w w' : World} {F : List (Nat × Obj)} {P en gs T E : Nat} {o o' : Nat → Int} {l l' : Nat → Bool} {ws st ws' st' : Bool} {gr at_ gr' at' : Int} {v v' : Value} {ks ks' : List (Int × Int)}
theorem Fs.ck (h : Fs w0 w F P en gs T E o l ws st gr at_ v ks) (k : Ck w' P ws' st' gr' at' en gs v' ks') (f : Fr (Ck.S P v) w w') (s : ∀ b, Ck.S P v' b → Ck.S P v b ∨ w.heap.size ≤ b) : Fs w0 w' F P en gs T E o l ws' st' gr' at' v' ks' := by
  refine ⟨k, h.t.fr f h.nT h.nE, fun e => (s _ e).elim h.nT (fun e => by have := h.t.1; omega), fun e => (s _ e).elim h.nE (fun e => by have := h.t.2.1; omega), fun p hp => ?_, fun b e => (s b e).elim (h.lk b) (fun e => Nat.le_trans h.bel.size e), h.lE, h.bel.trans (f.below h.bel.size (fun i hi e => by have := h.lk i e; omega))⟩
  obtain ⟨h1, h2, h3⟩ := h.fx p hp
  have hl := (Array.getElem?_eq_some_iff.1 h1).1
  exact ⟨(f.block _ hl h3).trans h1, h2, fun e => (s _ e).elim h3 (fun e => by omega)⟩
theorem Fs.ckP (h : Fs w0 w F P en gs T E o l ws st gr at_ v ks) (k : Ck w' P ws' st' gr' at' en gs v ks') (f : Fr (fun b => b = P) w w') : Fs w0 w' F P en gs T E o l ws' st' gr' at' v ks' := h.ck k (f.mono (fun _ _ e => .inl e)) (fun _ e => .inl e)
theorem Fs.next (h : Fs w0 w F P en gs T E o l ws st gr at_ v ks) (b : Below w.heap.size w w') : Fs w0 w' F P en gs T E o l ws st gr at_ v ks := h.ck (h.k.next b) (Fr.of_below b) (fun _ e => .inl e)
theorem Fs.set (h : Fs w0 w F P en gs T E o l ws st gr at_ v ks) (t : Tb w' T E gs o' l') (g : w.grownBy w' (some E)) : Fs w0 w' F P en gs T E o' l' ws st gr at_ v ks := by
  have f : Fr (fun b => b = E) w w' := Fr.of_grown g (fun _ => rfl)
  refine ⟨h.k.fr f (fun b e e2 => h.nE (e2 ▸ e)), t, h.nT, h.nE, fun p hp => ?_, h.lk, h.lE, h.bel.trans (f.below h.bel.size (fun i hi e => by have := h.lE; omega))⟩
  obtain ⟨h1, h2, h3⟩ := h.fx p hp
  exact ⟨(f.block _ (Array.getElem?_eq_some_iff.1 h1).1 h2).trans h1, h2, h3⟩
/-- Blocks that no checker or table has turned. -/
theorem Fs.own {S : Nat → Prop} (h : Fs w0 w F P en gs T E o l ws st gr at_ v ks) (f : Fr S w w') (hS : ∀ b, b < w.heap.size → ¬ S b) : Fs w0 w' F P en gs T E o l ws st gr at_ v ks :=
  h.next (f.below (Nat.le_refl _) hS)
theorem Fs.add (h : Fs w0 w F P en gs T E o l ws st gr at_ v ks) (b : Nat) (x : Obj) (hx : w.heap[b]? = some x) (hE : b ≠ E) (hv : ¬ Ck.S P v b) : Fs w0 w ((b, x) :: F) P en gs T E o l ws st gr at_ v ks :=
  ⟨h.k, h.t, h.nT, h.nE, fun p hp => by (rcases List.mem_cons.1 hp with rfl | hp; exact ⟨hx, hE, hv⟩; exact h.fx p hp), h.lk, h.lE, h.bel⟩
theorem Fs.sub {F' : List (Nat × Obj)} (h : Fs w0 w F P en gs T E o l ws st gr at_ v ks) (s : ∀ p ∈ F', p ∈ F) : Fs w0 w F' P en gs T E o l ws st gr at_ v ks := ⟨h.k, h.t, h.nT, h.nE, fun p hp => h.fx p (s p hp), h.lk, h.lE, h.bel⟩
/-- A fixed block's cell. -/
theorem Fs.cell (h : Fs w0 w F P en gs T E o l ws st gr at_ v ks) {b i : Nat} {cs : Array Value} {t : TypeId} {fz : Nat × Nat} {u : Value} (hb : (b, Obj.cells cs t fz) ∈ F) (hu : cs[i]? = some u) : w.cell? ⟨b, i, none⟩ = some u := by
  have := (h.fx _ hb).1
  simp [World.cell?, this, hu]
theorem Fs.blk (h : Fs w0 w F P en gs T E o l ws st gr at_ v ks) {p : Nat × Obj} (hp : p ∈ F) : p.1 < w.heap.size := (Array.getElem?_eq_some_iff.1 (h.fx p hp).1).1
end
/-- All is fresh. -/
structure Fi (mn gs : Nat) (o : Nat → Int) (l : Nat → Bool) (ws st : Bool) (gr at_ : Int) (ks : List (Int × Int)) (rd : Bool) (wd : Int) : Prop where
  ob : ∀ j, 0 ≤ o j ∧ o j ≤ 4
  pw : ks.Pairwise (fun x y => x.1 ≠ y.1)
  fr : ∀ x ∈ ks, ∃ j : Nat, x.1 = j ∧ j < gs ∧ o j = x.2 ∧ l j = false
  wk : ws = true → ∃ g : Nat, gr = (g : Int) ∧ g < gs ∧ (∀ x ∈ ks, x.1 ≠ (g : Int)) ∧ (at_ = ((g / 4 : Nat) : Int) ∨ at_ = (mn : Int) + g) ∧ (rd = true → st = false → Good mn o l g at_ wd)
section
variable {mn gs : Nat} {o : Nat → Int} {l : Nat → Bool} {ws st st' : Bool} {gr at_ : Int} {ks ks' : List (Int × Int)} {rd : Bool} {wd : Int}
theorem Fi.inv (h : Fi mn gs o l ws st gr at_ ks rd wd) : Inv gs ws gr ks := by
  refine ⟨fun e => ?_, h.pw, fun x hx => ?_⟩
  · obtain ⟨g, h1, h2, h3, -⟩ := h.wk e
    exact ⟨g, h1, h2, h3⟩
  · obtain ⟨j, h1, h2, h3, -⟩ := h.fr x hx
    have := h.ob j
    exact ⟨⟨by omega, by omega⟩, by omega, by omega⟩
theorem Fi.drop (h : Fi mn gs o l ws st gr at_ ks rd wd) (s : ks'.Sublist ks) (e : st' = false → st = false) : Fi mn gs o l ws st' gr at_ ks' rd wd := by
  refine ⟨h.ob, h.pw.sublist s, fun x hx => h.fr x (s.mem hx), fun e2 => ?_⟩
  obtain ⟨g, h1, h2, h3, h4, h5⟩ := h.wk e2
  exact ⟨g, h1, h2, fun x hx => h3 x (s.mem hx), h4, fun a b => h5 a (e b)⟩
/-- An entry turned, and its granule dropped. -/
theorem Fi.turn (h : Fi mn gs o l ws st gr at_ ks rd wd) (j : Nat) (x : Int) (b : Bool) (hx : 0 ≤ x ∧ x ≤ 4) (s : ks'.Sublist ks) (hno : ∀ y ∈ ks', y.1 ≠ (j : Int)) (hst : ws = true → gr = (j : Int) → st' = true) (e : st' = false → st = false) : Fi mn gs (upd o j x) (upd l j b) ws st' gr at_ ks' rd wd := by
  have uo : ∀ i, i ≠ j → upd o j x i = o i := fun i hi => by simp [upd, hi]
  have ul : ∀ i, i ≠ j → upd l j b i = l i := fun i hi => by simp [upd, hi]
  refine ⟨fun i => ?_, h.pw.sublist s, fun y hy => ?_, fun e2 => ?_⟩
  · unfold upd
    split
    · exact hx
    · exact h.ob i
  · obtain ⟨i, h1, h2, h3, h4⟩ := h.fr y (s.mem hy)
    have hij : i ≠ j := by rintro rfl; exact hno y hy h1
    exact ⟨i, h1, h2, by rw [uo i hij]; exact h3, by rw [ul i hij]; exact h4⟩
  · obtain ⟨g, h1, h2, h3, h4, h5⟩ := h.wk e2
    refine ⟨g, h1, h2, fun y hy => h3 y (s.mem hy), h4, fun a b' => ?_⟩
    have hgj : g ≠ j := by
      rintro rfl
      have := hst e2 h1
      rw [b'] at this
      cases this
    have := h5 a (e b')
    unfold Good at this ⊢
    rw [uo g hgj, ul g hgj]
    exact this
end
end Go.Proofs.Ytfikiophfphmbaa
