import Derived.Test.YtfiangiajhdhcaaDoorG
import Derived.Test.YtfiangiajhdhcaaDoorCL6
import Derived.WalkKit
import Derived.WalkSpells
import Derived.ProofKit
import Derived.Outline
import Derived.Handy
import Derived.RowKit3
import Derived.BigQuiet
import Derived.Deep.QuietTactic
import Derived.Deep.RegionHeld3
import Derived.Deep.Draws
import Derived.Deep.RegionLaw
import Derived.RegionTactic
import Derived.BigRegion
import Derived.IntWalk
import Derived.LoopTactic
import Derived.OwnWalk
import Derived.Laws.AppendOwn
import Derived.Laws.OwnMore
import Derived.Laws.MakeOwn
import Derived.Laws.Pointers
import Derived.Maps.AppendAt
import Derived.Deep.AppendLies
import Derived.Below
import Derived.RangeFuncNested
import Derived.RangeFuncBound
import Derived.RangeFuncCalls
import Derived.RangeFuncLeaves
import Derived.Shelf.Abstract
import Derived.LoopNIn
import Derived.LoopIn
import Derived.OwnWalkIn
import Derived.TacticsInMore
import Derived.Shelf.RegionOpen
import Derived.Laws.ResultCell
import Derived.Laws.ResultCell
namespace Go.Proofs.YtfiangiajhdhcaaDoor
open Go.Shelf Go.RowKit
set_option linter.unusedVariables false
set_option maxRecDepth 100000

/-! ### Run: Local again and again -/
noncomputable def itS (p : Pg) (no : Int) (σ : Nat → Int) : Nat → Nat → Int
  | 0 => σ
  | n + 1 => nxt p no (itS p no σ n)
noncomputable def evC (p : Pg) (no : Int) (σ : Nat → Int) : List Value := [.int .i64 (evt p no σ 0), .int .i64 (evt p no σ 1), .int .i64 (evt p no σ 2), .int .i64 (evt p no σ 3), .int .i64 (evt p no σ 4), .int .i64 (evt p no σ 5), .int .i64 (evt p no σ 6)]
noncomputable def evCs (p : Pg) (no : Int) (σ : Nat → Int) : Nat → List Value
  | 0 => []
  | n + 1 => evCs p no σ n ++ evC p no (itS p no σ n)
theorem info54 : (Tryd.prog.info? 54).map (fun i => (i.zero, i.size, i.bytes)) = some (some (.agg #[.int .i64 0, .int .i64 0, .int .i64 0, .int .i64 0, .int .i64 0, .int .i64 0, .int .i64 0]), 7, 56) := by kernel_rfl
theorem FrS.fr {S : Nat → Prop} {w w' : World} (h : FrS S w w') : Fr S w w' := ⟨h.os, h.tape, h.output, h.size, h.block⟩
theorem ownsRow_fr {w w' : World} {base size n : Nat} {e : TypeId} {v : Value} {xs : List Value} {S : Nat → Prop} (h : w.ownsRow base e size v n xs) (f : Fr S w w') (hS : ∀ k, v.ownBlock = some k → ¬ S k) : w'.ownsRow base e size v n xs := by
  refine ⟨h.1, ?_⟩
  rcases h.2 with hn | ⟨g, cap, cur, rfl, hb, hgg, rest⟩
  · exact .inl hn
  · exact .inr ⟨g, cap, cur, rfl, hb, (f.block g (Array.getElem?_eq_some_iff.1 hgg).1 (hS g rfl)).trans hgg, rest⟩
theorem tabsY_fr {p : Pg} {S : Nat → Prop} {w w' : World} (f : Fr S w w') (h0 : ¬ S 0) (h : ∀ τ no, TabsIn (stE p τ no) 9 tsY15 w) (τ : Nat → Int) (no : Int) : TabsIn (stE p τ no) 9 tsY15 w' := by
  refine ⟨trivial, fun g l hm => ?_⟩
  obtain ⟨h1, us, el, fz, h2, h3⟩ := (h τ no).2 g l hm
  have hg : g = 0 := by simp only [tsY15, List.mem_cons, List.not_mem_nil, or_false, Prod.mk.injEq] at hm; exact hm.1
  subst hg
  exact ⟨h1, us, el, fz, (f.block 0 (heap_lt h2) h0).trans h2, h3⟩
structure RunRel (p : Pg) (no : Int) (σ : Nat → Int) (P : Nat) (q : Place) (w : World) (v5 : Value) (k : Nat) (wr : World) : Prop where
  co : CoAt p (itS p no σ k) no P q wr
  own : wr.ownsRow w.heap.size 54 7 v5 k (evCs p no σ k)
  fr : Fr (fun x => x = P ∨ p.F q x) w wr
  did : ∀ j, j < k → evt p no (itS p no σ j) 7 = 1
  at_ : 0 ≤ itS p no σ k 4 ∧ itS p no σ k 4 ≤ p.L
  tabs : ∀ τ no, TabsIn (stE p τ no) 9 tsY15 wr
theorem evC_one (p : Pg) (no : Int) (σ : Nat → Int) : ∀ u ∈ evC p no σ, u.oneCell' = true := by
  intro u hu
  simp only [evC, List.mem_cons, List.not_mem_nil, or_false] at hu
  rcases hu with rfl | rfl | rfl | rfl | rfl | rfl | rfl <;> rfl
theorem ev_news (p : Pg) (no : Int) (τ : Nat → Int) (w1 : World) : ∀ (j : Nat) (u : Value), (evC p no τ)[j]? = some u → ((w1.alloc (.cells #[.int .i64 (evt p no τ 0), .int .i64 (evt p no τ 1), .int .i64 (evt p no τ 2), .int .i64 (evt p no τ 3), .int .i64 (evt p no τ 4), .int .i64 (evt p no τ 5), .int .i64 (evt p no τ 6)] 54)).alloc (.cells #[.int .i64 (evt p no τ 0), .int .i64 (evt p no τ 1), .int .i64 (evt p no τ 2), .int .i64 (evt p no τ 3), .int .i64 (evt p no τ 4), .int .i64 (evt p no τ 5), .int .i64 (evt p no τ 6)] 54)).cell? ((⟨w1.heap.size + 1, 0, none⟩ : Addr).add j) = some u := by
  intro j u hu
  have hs : w1.heap.size + 1 = (w1.alloc (.cells #[.int .i64 (evt p no τ 0), .int .i64 (evt p no τ 1), .int .i64 (evt p no τ 2), .int .i64 (evt p no τ 3), .int .i64 (evt p no τ 4), .int .i64 (evt p no τ 5), .int .i64 (evt p no τ 6)] 54)).heap.size := by simp
  rw [add_plain, Nat.zero_add, World.cell?_alloc_at _ _ _ _ hs, List.getElem?_toArray]
  exact hu
theorem run_step {p : Pg} (hp : p.ok) {σ : Nat → Int} {no : Int} {P : Nat} {q : Place} {w wr w1 w2 : World} {u5 v' : Value} {k : Nat} {x y : Obj} (h : CoAt p σ no P q w) (R : RunRel p no σ P q w u5 k wr)
    (co1 : CoAt p (nxt p no (itS p no σ k)) no P q w1) (f1 : FrS (fun x => x = P ∨ p.F q x) wr w1) (hown : w2.ownsRow w.heap.size 54 7 v' (k + 1) (evCs p no σ k ++ evC p no (itS p no σ k)))
    (hgrow : ((w1.alloc x).alloc y).grownBy w2 u5.ownBlock) (he : evt p no (itS p no σ k) 7 = 1) : RunRel p no σ P q w v' (k + 1) w2 := by
  have hP : P < w.heap.size := h.lt
  have hq : ∀ g, p.F q g → g < w.heap.size := fun g e => Pg.lt h.prog e
  have g2 : Fr (fun g => u5.ownBlock = some g) w1 w2 := (((Fr.refl _ w1).alloc x).alloc y).trans (Fr.of_grown' hgrow (fun E hE _ => hE)) (fun i _ hi => hi)
  have far : ∀ g, u5.ownBlock = some g → w.heap.size ≤ g := fun g hg => (R.own.lt g hg).1
  have ft : Fr (fun x => x = P ∨ p.F q x ∨ u5.ownBlock = some x) wr w2 := ⟨g2.os.trans f1.os, g2.tape.trans f1.tape, g2.output.trans f1.output, Nat.le_trans f1.size g2.size, fun i hi hn => (g2.block i (Nat.lt_of_lt_of_le hi f1.size) (fun e => hn (.inr (.inr e)))).trans (f1.block i hi (fun e => hn (e.elim .inl (fun e => .inr (.inl e)))))⟩
  refine ⟨co1.kept (fun i hi => g2.block i ?_ (fun e => ?_)), hown, ⟨ft.os.trans R.fr.os, ft.tape.trans R.fr.tape, ft.output.trans R.fr.output, Nat.le_trans R.fr.size ft.size, fun i hi hn => (ft.block i (Nat.lt_of_lt_of_le hi R.fr.size) (fun e => ?_)).trans (R.fr.block i hi hn)⟩, fun j hj => ?_, (nxt_at hp no R.at_).1, tabsY_fr (g2) (fun e => ?_) (tabsY_fr f1.fr (fun e => e.elim (fun e => h.p0 e.symm) h.q0) R.tabs)⟩
  · have hs := Nat.le_trans R.fr.size f1.size
    rcases hi with rfl | hi
    · omega
    · have := hq i hi; omega
  · have := far i e
    rcases hi with rfl | hi
    · omega
    · have := hq i hi; omega
  · rcases e with e | e | e
    · exact hn (.inl e)
    · exact hn (.inr e)
    · have := far i e; omega
  · by_cases hk : j = k
    · subst hk; exact he
    · exact R.did j (by omega)
  · have := far 0 e; omega
theorem run_stop {p : Pg} (hp : p.ok) {σ : Nat → Int} {no : Int} {P : Nat} {q : Place} {w wr w1 : World} {u5 : Value} {k : Nat} {x : Obj} (h : CoAt p σ no P q w) (R : RunRel p no σ P q w u5 k wr)
    (co1 : CoAt p (nxt p no (itS p no σ k)) no P q w1) (f1 : FrS (fun x => x = P ∨ p.F q x) wr w1) (he : evt p no (itS p no σ k) 7 = 0) : RunRel p no σ P q w u5 k (w1.alloc x) := by
  have hP : P < w.heap.size := h.lt
  have hq : ∀ g, p.F q g → g < w.heap.size := fun g e => Pg.lt h.prog e
  have g2 : Fr (fun _ => False) w1 (w1.alloc x) := (Fr.refl _ w1).alloc x
  have ft : Fr (fun x => x = P ∨ p.F q x) wr (w1.alloc x) := f1.fr.alloc x
  have hs := Nat.le_trans R.fr.size f1.size
  refine ⟨(co1.congr (nxt_still p no _ he)).kept (fun i hi => g2.block i ?_ (fun e => e)), ownsRow_fr R.own ft (fun g hg => ?_), R.fr.trans ft (fun _ _ e => e), R.did, R.at_, tabsY_fr g2 (fun e => e) (tabsY_fr f1.fr (fun e => e.elim (fun e => h.p0 e.symm) h.q0) R.tabs)⟩
  · rcases hi with rfl | hi
    · omega
    · have := hq i hi; omega
  · have h1 := R.own.lt g hg
    rintro (e | e)
    · omega
    · have := hq g e; omega
set_option maxHeartbeats 2000000 in
theorem run_any {p : Pg} (hp : p.ok) {σ : Nat → Int} (no : Int) (h4 : 0 ≤ σ 4 ∧ σ 4 ≤ p.L) {P : Nat} {q : Place} (most : Int) (hm : most ≤ 100) (w : World) (h : CoAt p σ no P q w) (hT : ∀ τ no, TabsIn (stE p τ no) 9 tsY15 w) :
    Calls Tryd.prog 39 #[.pointer (some ⟨P, 0, none⟩), .int .i64 most] w fun r w' => ∃ (k : Nat) (v : Value), r = .returned v ∧ k ≤ most.toNat ∧ (k = most.toNat ∨ evt p no (itS p no σ k) 7 = 0) ∧ RunRel p no σ P q w v k w' := by
  obtain ⟨i0, hi, hz0, hz1, hz2⟩ := info_parts info54
  have start : RunRel p no σ P q w (.slice none 0 0) 0 w := ⟨h, World.ownsRow_nil _ _ _ _, Fr.refl _ _, fun j hj => absurd hj (Nat.not_lt_zero _), h4, hT⟩
  have HS0 := hide h
  have HS := hide start
  clear start h hT
  go_enter Tryd.func39, Tryd.ntmps39
  go_wp2
  go_step3
  go_wp2
  go_step3
  go_wp2
  go_loopw [5, 9] (fun v5 v9 wr => ∃ k : Nat, k ≤ most.toNat ∧ v9 = .int .i64 k ∧ RunRel p no σ P q w v5 k wr) (fun _ v9 _ => most.toNat - (intOf v9).toNat)
  case atStart => exact ⟨0, Nat.zero_le _, rfl, HS.out⟩
  case round =>
    obtain ⟨k, hk, rfl, R⟩ := hrel
    have HR := hide R
    clear R
    by_cases hlt : (k : Int) < most
    · go_wp2_with fail
      refine (local_call hp no HR.out.at_ _ HR.out.co (HR.out.tabs _ _)).mono ?_
      rintro r w1 ⟨rfl, co1, f1⟩
      have H1 := hide co1
      have F1 := hide f1
      clear co1 f1
      have hP : P < w.heap.size := HS0.out.lt
      have f2 : Fr (fun x => x = P ∨ p.F q x) wr ((w1.alloc (.cells #[.int .i64 (evt p no (itS p no σ k) 0), .int .i64 (evt p no (itS p no σ k) 1), .int .i64 (evt p no (itS p no σ k) 2), .int .i64 (evt p no (itS p no σ k) 3), .int .i64 (evt p no (itS p no σ k) 4), .int .i64 (evt p no (itS p no σ k) 5), .int .i64 (evt p no (itS p no σ k) 6)] 54)).alloc (.cells #[.int .i64 (evt p no (itS p no σ k) 0), .int .i64 (evt p no (itS p no σ k) 1), .int .i64 (evt p no (itS p no σ k) 2), .int .i64 (evt p no (itS p no σ k) 3), .int .i64 (evt p no (itS p no σ k) 4), .int .i64 (evt p no (itS p no σ k) 5), .int .i64 (evt p no (itS p no σ k) 6)] 54)) := (F1.out.fr.alloc _).alloc _
      have far : Hid (∀ g, u5.ownBlock = some g → ¬ (g = P ∨ p.F q g)) := hide (fun g hg => by
        have h1 := HR.out.own.lt g hg
        rintro (e | e)
        · omega
        · have := Pg.lt HS0.out.prog e; omega)
      have OWN := hide (ownsRow_fr HR.out.own f2 far.out)
      have hws : w.heap.size ≤ w1.heap.size := Nat.le_trans HR.out.fr.size F1.out.size
      have NEWS := hide (ev_news p no (itS p no σ k) w1)
      have STEP := hide (fun (v' : Value) (w2 : World) (x y : Obj) (hown : w2.ownsRow w.heap.size 54 7 v' (k + 1) (evCs p no σ k ++ evC p no (itS p no σ k))) (hgrow : ((w1.alloc x).alloc y).grownBy w2 u5.ownBlock) (he : evt p no (itS p no σ k) 7 = 1) => run_step (v' := v') (w2 := w2) (σ := σ) (x := x) (y := y) hp HS0.out HR.out H1.out F1.out hown hgrow he)
      clear f2
      rcases (nxt_at hp no HR.out.at_).2 with he | ⟨he, -⟩
      · rw [he]
        replace STEP := hide (fun v' w2 x y hown hgrow => STEP.out v' w2 x y hown hgrow he)
        go_wp2_with (at_builtin; refine wpList_append_own _ rfl _ _ 80 rfl w.heap.size 54 i0 (.agg #[.int .i64 0, .int .i64 0, .int .i64 0, .int .i64 0, .int .i64 0, .int .i64 0, .int .i64 0]) 7 56 Tryd.underlying80 hi hz0 hz1 hz2 rfl (by decide) _ _ _ rfl OWN.out ⟨w1.heap.size + 1, 0, none⟩ 1 1 (evC p no (itS p no σ k)) rfl rfl NEWS.out (evC_one p no _) (by unfold maxLen; omega) (by omega) (by simp; omega) ?_; intro v' w2 hown' hgrow _)
        go_wp2
        go_roundw
        case rel => exact ⟨k + 1, by omega, int_eq (by omega), STEP.out _ _ _ _ hown' hgrow⟩
        case measure => simp [intOf]; omega
      · rw [he]
        have FIN := hide (fun x => run_stop (x := x) hp HS0.out HR.out H1.out F1.out he)
        have HE := hide he
        clear he STEP NEWS OWN
        go_wp2
        rw [Exit.noGoto_ret]
        go_ret
        exact ⟨k, u5, rfl, hk, .inr HE.out, FIN.out _⟩
    · go_wp2
      go_ret
      exact ⟨k, u5, rfl, hk, .inl (by omega), HR.out⟩

/-! ### Cores at the start, and their twins -/
/-- A core's block as New makes it. -/
def Blk (w : World) (P : Nat) : Prop := ∃ cc el, w.heap[P]? = some (.cells cc el (0, 0)) ∧ cc.size = 9
theorem Blk.next {w w' : World} {P : Nat} (h : Blk w P) (hb : Below w.heap.size w w') : Blk w' P := by
  obtain ⟨cc, el, h1, h2⟩ := h
  exact ⟨cc, el, (hb.block P (heap_lt h1)).trans h1, h2⟩
theorem Blk.setCell {w : World} {P : Nat} (h : Blk w P) (i : Nat) (u : Value) : Blk (w.setCell ⟨P, i, none⟩ u) P := by
  obtain ⟨cc, el, h1, h2⟩ := h
  refine ⟨cc.setIfInBounds i u, el, ?_, by simp [h2]⟩
  have hl := heap_lt h1
  simp only [World.setCell, Array.getElem?_modify, if_pos, h1, Option.map_some]
  simp
section
variable {w w' : World} {P : Nat} {r0 r1 r2 r3 at_ wd : Int} {ov : Bool} {no : Int} {av : Option Addr} {L c : Nat} {A B C D : Nat → Int}
theorem settle_b (w : World) (h : Co w P r0 r1 r2 r3 at_ wd ov no av L c A B C D) (hk : Blk w P) : Calls Tryd.prog 79 #[.pointer (some ⟨P, 0, none⟩)] w fun r w' => r = .returned (.tuple #[]) ∧ Co w' P r0 r1 r2 r3 at_ wd (!isN at_ L A) no av L c A B C D ∧ Fr (fun k => k = P) w w' ∧ Blk w' P := by
  have H := hide h
  have HK := hide hk
  clear h hk
  go_enter Tryd.func79, Tryd.ntmps79
  go_wp2_with fail
  refine (next_f _ H.out).mono ?_
  rintro r w1 ⟨rfl, hb⟩
  have z6 := (H.out.next hb).c6
  have f6 := (H.out.next hb).fz 6
  have H1 := hide (H.out.next hb)
  have F1 := hide (Fr.of_below (S := fun k => k = P) hb)
  have K1 := hide (HK.out.next hb)
  clear hb
  obtain ⟨xa, xb, xc, xd, hiv⟩ : ∃ xa xb xc xd, insV at_ L A B C D = .agg #[.int .i64 xa, .int .i64 xb, .int .i64 xc, .int .i64 xd] := by
    unfold insV
    split
    · exact ⟨_, _, _, _, rfl⟩
    · exact ⟨_, _, _, _, rfl⟩
  rw [hiv]
  clear hiv
  have H2 := hide (H1.out.next ((Below.refl w1.heap.size w1).alloc (Nat.le_refl _) (.cells #[.int .i64 xa, .int .i64 xb, .int .i64 xc, .int .i64 xd] 23)))
  have y6 := H2.out.c6
  have y6f := H2.out.fz 6
  generalize hb : isN at_ L A = b
  have H3 := hide (H2.out.setOver (!b))
  have K3 := hide ((K1.out.next ((Below.refl w1.heap.size w1).alloc (Nat.le_refl _) (.cells #[.int .i64 xa, .int .i64 xb, .int .i64 xc, .int .i64 xd] 23))).setCell 6 (.bool (!b)))
  have HBn := hide hb
  clear hb z6 f6
  go_wp2
  go_end0
  exact ⟨rfl, by rw [HBn.out]; exact H3.out, (F1.out.alloc _).setCell (p := ⟨P, 6, none⟩) (fun _ => rfl) _, K3.out⟩
theorem new_b (no wd : Int) (h : 0 ≤ no ∧ no < 4 ∧ 0 ≤ wd ∧ wd ≤ 3) (hL : L ≤ maxLen) (w : World) (T : Tab w) (hl : OpsIn w av L A B C D) (hb : (chkE L A B C D).2 = 0) : Calls Tryd.prog 37 #[.int .i64 no, .int .i64 wd, .slice av L c] w fun r w' => ∃ P av' c', r = .returned (.tuple #[.pointer (some ⟨P, 0, none⟩), .int .i64 0]) ∧ Co w' P 0 0 0 0 0 wd (!isN 0 L A) no av' L c' A B C D ∧ w.heap.size ≤ P ∧ (∀ a, av' = some a → w.heap.size ≤ a.block ∧ a.block < w'.heap.size) ∧ Below w.heap.size w w' ∧ Blk w' P := by
  have h32 : L ≤ 32 := by
    by_cases e : 32 < L
    · rw [chkE, if_pos e] at hb; cases hb
    · omega
  obtain ⟨h1, h2, h3, h4⟩ := h
  have HC := hide (Check_any av L c A B C D w T hl)
  obtain ⟨ch, hch⟩ : ∃ ch, chkE L A B C D = ch := ⟨_, rfl⟩
  rw [hch] at HC hb
  obtain ⟨c1, c2⟩ := ch
  simp only at HC hb
  subst hb
  have HL := hide hl
  clear hch T hl
  go_enter Tryd.func37, Tryd.ntmps37
  go_wp2_with fail
  refine HC.out.mono ?_
  rintro r w1 ⟨rfl, hbl⟩
  have B1 := hide hbl
  clear hbl
  go_wp2_with fail
  refine (clone_i av L c A B C D hL h32 w1 (HL.out.next B1.out)).mono ?_
  rintro r w2 ⟨av', c', rfl, hops, hav, hb2⟩
  have B2 := hide (below_step B1.out B1.out.size hb2)
  have HO := hide hops
  have HA := hide hav
  clear hops hav hb2
  go_wp2_with fail
  have hw2 : w.heap.size ≤ w2.heap.size := B2.out.size
  refine (settle_b (r0 := 0) (r1 := 0) (r2 := 0) (r3 := 0) (at_ := 0) (wd := wd) (ov := false) (no := no) (av := av') (L := L) (c := c') (A := A) (B := B) (C := C) (D := D) _ ?_ ?_).mono ?_
  · exact ⟨by simp, World.cell?_alloc_new w2 _ 79 0, World.cell?_alloc_new w2 _ 79 1, World.cell?_alloc_new w2 _ 79 2, World.cell?_alloc_new w2 _ 79 3, World.cell?_alloc_new w2 _ 79 4, World.cell?_alloc_new w2 _ 79 5, World.cell?_alloc_new w2 _ 79 6, World.cell?_alloc_new w2 _ 79 7, World.cell?_alloc_new w2 _ 79 8, fun i => World.frozen?_alloc_new w2 _ 79 i, HO.out.next ((Below.refl _ _).alloc (Nat.le_refl _) _), fun a e => (by have := (HA.out a e).2; omega), h32⟩
  · exact ⟨_, 79, (by simp only [World.alloc]; exact Array.getElem?_push_size), rfl⟩
  · rintro r w3 ⟨rfl, k3, f3, b3⟩
    have B3 := hide ((B2.out.alloc hw2 _).trans (f3.below (B := w.heap.size) (by simp; omega) (fun i hi e => by omega)))
    have S3 : w2.heap.size ≤ w3.heap.size := Nat.le_trans (by simp) f3.size
    have K3 := hide k3
    have L3 := hide b3
    clear k3 f3 b3
    go_wp2
    refine bodyPost_ret (v := .tuple #[.pointer (some ⟨w2.heap.size, 0, none⟩), .int .i64 0]) (by simp [results, Tryd.results37, go_sem]) rfl ?_
    exact ⟨_, av', c', rfl, K3.out, hw2, fun a e => ⟨Nat.le_trans B1.out.size (HA.out a e).1, Nat.lt_of_lt_of_le (HA.out a e).2 S3⟩, B3.out, L3.out⟩
/-- A core's twin shares its program. -/
theorem twin_b (w : World) (h : Co w P r0 r1 r2 r3 at_ wd ov no av L c A B C D) : Calls Tryd.prog 38 #[.pointer (some ⟨P, 0, none⟩)] w fun r w' => r = .returned (.pointer (some ⟨w.heap.size, 0, none⟩)) ∧ w' = w.alloc (.cells #[.int .i64 r0, .int .i64 r1, .int .i64 r2, .int .i64 r3, .int .i64 at_, .int .i64 wd, .bool ov, .int .i64 no, .slice av L c] 79) := by
  obtain ⟨hP, c0, c1, c2, c3, c4, c5, c6, c7, c8, fz, ops, sep, le⟩ := h
  have H := hide (⟨ops, sep, le⟩ : OpsIn w av L A B C D ∧ (∀ a, av = some a → a.block ≠ P) ∧ L ≤ 32)
  clear ops sep le fz
  go_enter Tryd.func38, Tryd.ntmps38
  go_wp2
  go_ret
  exact ⟨rfl, rfl⟩
end
theorem loc_f (o : Int) (b : Bool) (hb : decide (o = 1 ∨ o = 2 ∨ o = 6 ∨ o = 7 ∨ o = 9 ∨ o = 10) = b) (w : World) : Calls Tryd.prog 42 #[.int .i64 o] w fun r w' => r = .returned (.bool b) ∧ w = w' := by
  subst hb
  by_cases h : o = 1 ∨ o = 2 ∨ o = 6 ∨ o = 7 ∨ o = 9 ∨ o = 10
  · rw [decide_eq_true h]
    rcases h with rfl | rfl | rfl | rfl | rfl | rfl <;>
      (go_enter Tryd.func42, Tryd.ntmps42
       go_wp2
       go_ret
       exact ⟨rfl, rfl⟩)
  · rw [decide_eq_false h]
    have h1 : (o == 1) = false := by simp; omega
    have h2 : (o == 2) = false := by simp; omega
    have h9 : (o == 9) = false := by simp; omega
    have h10 : (o == 10) = false := by simp; omega
    by_cases h6 : 6 ≤ o
    · have h7 : ¬ o ≤ 7 := by omega
      go_enter Tryd.func42, Tryd.ntmps42
      go_wp2
      go_ret
      exact ⟨rfl, rfl⟩
    · go_enter Tryd.func42, Tryd.ntmps42
      go_wp2
      go_ret
      exact ⟨rfl, rfl⟩

/-! ### Between the two ways to tell a core -/
theorem fst_none {f : Nat → Int} : ∀ {n : Nat}, (fstE f n).1 = 0 → ∀ i, i < n → f i = 0
  | 0, _, i, hi => absurd hi (Nat.not_lt_zero _)
  | n + 1, h, i, hi => by
    unfold fstE at h
    by_cases h1 : (fstE f n).1 ≠ 0
    · rw [if_pos h1] at h; exact absurd h h1
    · rw [if_neg h1] at h
      by_cases h2 : f n ≠ 0
      · rw [if_pos h2] at h
        have : ((n : Int) + 1) = 0 := h
        omega
      · by_cases e : i = n
        · subst e; omega
        · have h3 : (fstE f n).1 = 0 := by omega
          exact fst_none h3 i (by omega)
theorem fst_two {f : Nat → Int} : ∀ {n : Nat}, (fstE f n).2 = 0 → (fstE f n).1 = 0
  | 0, _ => rfl
  | n + 1, h => by
    unfold fstE at h ⊢
    by_cases h1 : (fstE f n).1 ≠ 0
    · rw [if_pos h1] at h; exact absurd (fst_two h) h1
    · rw [if_neg h1] at h ⊢
      by_cases h2 : f n ≠ 0
      · rw [if_pos h2] at h; exact absurd h h2
      · rw [if_neg h2]
theorem pg_ok {L : Nat} {A B C D : Nat → Int} (h : (chkE L A B C D).2 = 0) : Pg.ok ⟨L, A, B, C, D⟩ := by
  unfold chkE at h
  by_cases e : 32 < L
  · rw [if_pos e] at h; cases h
  · rw [if_neg e] at h
    exact ⟨Nat.le_of_not_lt e, fun i hi => fst_none (fst_two h) i hi⟩
noncomputable def stC (r0 r1 r2 r3 at_ wd : Int) (ov : Bool) (i : Nat) : Int :=
  if i = 0 then r0 else if i = 1 then r1 else if i = 2 then r2 else if i = 3 then r3 else if i = 4 then at_ else if i = 5 then wd else if ov then 1 else 0
theorem cell_in {w : World} {P i : Nat} {cc : Array Value} {el : TypeId} {fz : Nat × Nat} {u : Value} (h : w.heap[P]? = some (.cells cc el fz)) (hu : w.cell? ⟨P, i, none⟩ = some u) : cc[i]? = some u := by
  simp only [World.cell?, h] at hu
  simpa using hu
theorem cell_out {w : World} {P i : Nat} {cc : Array Value} {el : TypeId} {fz : Nat × Nat} {u : Value} (h : w.heap[P]? = some (.cells cc el fz)) (hu : cc[i]? = some u) : w.cell? ⟨P, i, none⟩ = some u := by
  simp only [World.cell?, h]
  simpa using hu
section
variable {w : World} {P : Nat} {r0 r1 r2 r3 at_ wd : Int} {ov : Bool} {no : Int} {av : Option Addr} {L c : Nat} {A B C D : Nat → Int}
theorem co_at (h : Co w P r0 r1 r2 r3 at_ wd ov no av L c A B C D) (hk : Blk w P) (hP : P ≠ 0) (h0 : ∀ a, av = some a → a.block ≠ 0) : CoAt ⟨L, A, B, C, D⟩ (stC r0 r1 r2 r3 at_ wd ov) no P ⟨0, 0, 0, .slice av L c⟩ w := by
  obtain ⟨cc, el, h1, h2⟩ := hk
  refine ⟨⟨cc, el, [.int .i64 r0, .int .i64 r1, .int .i64 r2, .int .i64 r3, .int .i64 at_, .int .i64 wd, .bool ov, .int .i64 no, .slice av L c], h1, ?_, fun i u hu => ?_, Nat.le_refl _, by simp [h2], fun n hn => by injection hn⟩, ⟨av, c, rfl, h.ops⟩, ?_, hP, ?_⟩
  · have d6 : Den (stE ⟨L, A, B, C, D⟩ (stC r0 r1 r2 r3 at_ wd ov) no) (rhoS [⟨P, 0, 9, undef⟩, ⟨0, 0, 0, .slice av L c⟩]) (.side (.at 6)) (.bool ov) := by cases ov <;> rfl
    have d8 : Den (stE ⟨L, A, B, C, D⟩ (stC r0 r1 r2 r3 at_ wd ov) no) (rhoS [⟨P, 0, 9, undef⟩, ⟨0, 0, 0, .slice av L c⟩]) (.asl 1 (.at 8) 4 [] []) (.slice av L c) :=
      ⟨⟨0, 0, 0, .slice av L c⟩, rfl, rfl, Int.natCast_nonneg _, av, c, rfl, fun x hx => (by cases hx), fun x hx => by cases hx⟩
    exact ⟨_, _, rfl, ⟨_, _, rfl, ⟨_, _, rfl, ⟨_, _, rfl, ⟨_, _, rfl, ⟨_, _, rfl, ⟨_, _, d6, ⟨_, _, rfl, ⟨_, _, d8, rfl, rfl⟩, rfl⟩, rfl⟩, rfl⟩, rfl⟩, rfl⟩, rfl⟩, rfl⟩, rfl⟩
  · rw [Nat.zero_add]
    have hi : i < 9 := (List.getElem?_eq_some_iff.1 hu).1
    have c9 : i = 0 ∨ i = 1 ∨ i = 2 ∨ i = 3 ∨ i = 4 ∨ i = 5 ∨ i = 6 ∨ i = 7 ∨ i = 8 := by omega
    rcases c9 with rfl | rfl | rfl | rfl | rfl | rfl | rfl | rfl | rfl <;> cases hu
    · exact cell_in h1 h.c0
    · exact cell_in h1 h.c1
    · exact cell_in h1 h.c2
    · exact cell_in h1 h.c3
    · exact cell_in h1 h.c4
    · exact cell_in h1 h.c5
    · exact cell_in h1 h.c6
    · exact cell_in h1 h.c7
    · exact cell_in h1 h.c8
  · rintro ⟨_, a, c', e, hb⟩
    cases e
    exact h.sep _ rfl hb
  · rintro ⟨_, a, c', e, hb⟩
    cases e
    exact h0 _ rfl hb
theorem at_co {σ : Nat → Int} (h : CoAt ⟨L, A, B, C, D⟩ σ no P ⟨0, 0, 0, .slice av L c⟩ w) (hs : ∀ a, av = some a → a.block ≠ P) (le : L ≤ 32) : Co w P (σ 0) (σ 1) (σ 2) (σ 3) (σ 4) (σ 5) (σ 6 == 1) no av L c A B C D := by
  obtain ⟨cc, el, us, h1, h2, h3, h4, h5, h6⟩ := h.core
  obtain ⟨u0, t, d0, h2, rfl⟩ := h2
  obtain ⟨u1, t, d1, h2, rfl⟩ := h2
  obtain ⟨u2, t, d2, h2, rfl⟩ := h2
  obtain ⟨u3, t, d3, h2, rfl⟩ := h2
  obtain ⟨u4, t, d4, h2, rfl⟩ := h2
  obtain ⟨u5, t, d5, h2, rfl⟩ := h2
  obtain ⟨u6, t, d6, h2, rfl⟩ := h2
  obtain ⟨u7, t, d7, h2, rfl⟩ := h2
  obtain ⟨u8, t, d8, h2, rfl⟩ := h2
  cases h2
  have g : ∀ i u, [u0, u1, u2, u3, u4, u5, u6, u7, u8][i]? = some u → w.cell? ⟨P, i, none⟩ = some u := fun i u hu => cell_out h1 (by have := h3 i u hu; rwa [Nat.zero_add] at this)
  obtain ⟨q8, z0, e8, -⟩ := d8
  cases z0
  obtain ⟨av', c', e, ho⟩ := h.prog
  cases e
  refine ⟨heap_lt h1, ?_, ?_, ?_, ?_, ?_, ?_, ?_, ?_, ?_, fun i => ?_, ho, hs, le⟩
  · rw [g 0 u0 rfl, show u0 = .int .i64 (σ 0) from d0]
  · rw [g 1 u1 rfl, show u1 = .int .i64 (σ 1) from d1]
  · rw [g 2 u2 rfl, show u2 = .int .i64 (σ 2) from d2]
  · rw [g 3 u3 rfl, show u3 = .int .i64 (σ 3) from d3]
  · rw [g 4 u4 rfl, show u4 = .int .i64 (σ 4) from d4]
  · rw [g 5 u5 rfl, show u5 = .int .i64 (σ 5) from d5]
  · rw [g 6 u6 rfl, show u6 = .bool (σ 6 == 1) from d6]
  · rw [g 7 u7 rfl, show u7 = .int .i64 no from d7]
  · rw [g 8 u8 rfl, show u8 = .slice av L c from e8]
  · unfold World.frozen?
    have h1' : w.heap[P]? = some (.cells cc el (0, 0)) := h1
    simp [h1']
end
/-! Equal events and equal cores are so. -/
theorem ev_same (a0 a1 a2 a3 a4 a5 a6 : Int) (W : World) : (Op.equalIn Op.maxDepth 54 (.agg #[.int .i64 a0, .int .i64 a1, .int .i64 a2, .int .i64 a3, .int .i64 a4, .int .i64 a5, .int .i64 a6]) (.agg #[.int .i64 a0, .int .i64 a1, .int .i64 a2, .int .i64 a3, .int .i64 a4, .int .i64 a5, .int .i64 a6])).run Tryd.prog W = .ok true W :=
  have d : Den (valOf [a0, a1, a2, a3, a4, a5, a6]) (rhoS []) (.agg [.int .i64 (.at 0), .int .i64 (.at 1), .int .i64 (.at 2), .int .i64 (.at 3), .int .i64 (.at 4), .int .i64 (.at 5), .int .i64 (.at 6)]) (.agg #[.int .i64 a0, .int .i64 a1, .int .i64 a2, .int .i64 a3, .int .i64 a4, .int .i64 a5, .int .i64 a6]) :=
    ⟨_, ⟨_, _, rfl, ⟨_, _, rfl, ⟨_, _, rfl, ⟨_, _, rfl, ⟨_, _, rfl, ⟨_, _, rfl, ⟨_, _, rfl, rfl, rfl⟩, rfl⟩, rfl⟩, rfl⟩, rfl⟩, rfl⟩, rfl⟩, rfl⟩
  sEq_ok (C := ⟨Tryd.prog, {}, 9⟩) W ⟨fun _ _ _ _ h => (by cases h), fun _ _ h => (by cases h)⟩ _ d d (by kernel_rfl)
theorem co_same (a0 a1 a2 a3 a4 a5 : Int) (b : Bool) (W : World) : (Op.equalIn Op.maxDepth 64 (.agg #[.int .i64 a0, .int .i64 a1, .int .i64 a2, .int .i64 a3, .int .i64 a4, .int .i64 a5, .bool b]) (.agg #[.int .i64 a0, .int .i64 a1, .int .i64 a2, .int .i64 a3, .int .i64 a4, .int .i64 a5, .bool b])).run Tryd.prog W = .ok true W :=
  have d : Den (valOf [a0, a1, a2, a3, a4, a5]) (rhoS []) (.agg [.int .i64 (.at 0), .int .i64 (.at 1), .int .i64 (.at 2), .int .i64 (.at 3), .int .i64 (.at 4), .int .i64 (.at 5), .bool b]) (.agg #[.int .i64 a0, .int .i64 a1, .int .i64 a2, .int .i64 a3, .int .i64 a4, .int .i64 a5, .bool b]) :=
    ⟨_, ⟨_, _, rfl, ⟨_, _, rfl, ⟨_, _, rfl, ⟨_, _, rfl, ⟨_, _, rfl, ⟨_, _, rfl, ⟨_, _, rfl, rfl, rfl⟩, rfl⟩, rfl⟩, rfl⟩, rfl⟩, rfl⟩, rfl⟩, rfl⟩
  sEq_ok (C := ⟨Tryd.prog, {}, 9⟩) W ⟨fun _ _ _ _ h => (by cases h), fun _ _ h => (by cases h)⟩ _ d d (by cases b <;> kernel_rfl)
theorem ev_neq (a0 a1 a2 a3 a4 a5 a6 : Int) (W : World) : (binOp BinOp.neq 54 (.agg #[.int .i64 a0, .int .i64 a1, .int .i64 a2, .int .i64 a3, .int .i64 a4, .int .i64 a5, .int .i64 a6]) (.agg #[.int .i64 a0, .int .i64 a1, .int .i64 a2, .int .i64 a3, .int .i64 a4, .int .i64 a5, .int .i64 a6])).run Tryd.prog W = .ok (.bool false) W := by
  simp only [binOp, Sem.run_bind, Op.equal, ev_same, Result.andThen_ok]
  rfl
theorem co_neq (a0 a1 a2 a3 a4 a5 : Int) (b : Bool) (W : World) : (binOp BinOp.neq 64 (.agg #[.int .i64 a0, .int .i64 a1, .int .i64 a2, .int .i64 a3, .int .i64 a4, .int .i64 a5, .bool b]) (.agg #[.int .i64 a0, .int .i64 a1, .int .i64 a2, .int .i64 a3, .int .i64 a4, .int .i64 a5, .bool b])).run Tryd.prog W = .ok (.bool false) W := by
  simp only [binOp, Sem.run_bind, Op.equal, co_same, Result.andThen_ok]
  rfl
theorem co_eql (a0 a1 a2 a3 a4 a5 : Int) (b : Bool) (W : World) : (binOp BinOp.eql 64 (.agg #[.int .i64 a0, .int .i64 a1, .int .i64 a2, .int .i64 a3, .int .i64 a4, .int .i64 a5, .bool b]) (.agg #[.int .i64 a0, .int .i64 a1, .int .i64 a2, .int .i64 a3, .int .i64 a4, .int .i64 a5, .bool b])).run Tryd.prog W = .ok (.bool true) W := by
  simp only [binOp, Sem.run_bind, Op.equal, co_same, Result.andThen_ok]
  rfl
end Go.Proofs.YtfiangiajhdhcaaDoor
