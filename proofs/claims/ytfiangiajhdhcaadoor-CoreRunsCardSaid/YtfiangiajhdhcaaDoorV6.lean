/- The reckoner: a symbolic evaluator of a program, proved sound; one of its texts. No condition. -/
import Derived.Test.YtfiangiajhdhcaaDoorV5
namespace Go.Proofs.YtfiangiajhdhcaaDoor
open Go.RowKit
set_option linter.unusedVariables false
set_option maxRecDepth 100000

/-! ### The world by names -/
abbrev TM := Tr SV
noncomputable def TM.val (T : TM) (t : Nat) : SV := match T.get t with | some v => v | none => .tup []
inductive SBlk where
  | cells (l : List SV) (ext : Option Nat)
  | ro (l : List SV)
  | loop (st : LoopState) (pend : Option Code) (T : TM) (N : Nat) (params : Array Tmp) (assign body : Code) (d : Nat)
  | dfr (taken : Bool)
  | map (es : List (SV × SV × Nat)) (clock : Nat)
  | miter (m since : Nat) (seen : List Nat) (last : Nat)
  | bld (T : TypeId) (a : Bool) (v : SV)
  | abs (i : Nat) (wr : Bool)
  | win (i : Nat) (l : List SV)
abbrev SH := Tr SBlk
structure TRel (E : Val) (ρ : Rho) (T : TM) (N : Nat) (tmps : Array Value) : Prop where
  size : tmps.size = N
  get : ∀ t, Den E ρ (T.val t) (tmps.getD t undef)
section
variable {E : Val} {ρ ρ' : Rho}
theorem TRel.mono {T : TM} {N : Nat} {tmps : Array Value} (h : TRel E ρ T N tmps) (hr : ρ.le ρ') : TRel E ρ' T N tmps := ⟨h.size, fun t => (h.get t).mono hr⟩
theorem TM.val_set (T : TM) (d t : Nat) (v : SV) : TM.val (T.set d v) t = if t = d then v else T.val t := by
  unfold TM.val
  rw [Tr.get_set]
  by_cases e : t = d <;> simp [e]
theorem getD_set (tmps : Array Value) (d t : Nat) (u x : Value) (h : d < tmps.size) : (tmps.setIfInBounds d u).getD t x = if t = d then u else tmps.getD t x := by
  simp only [Array.getD_eq_getD_getElem?, Array.getElem?_setIfInBounds]
  by_cases e : t = d
  · subst e; simp [h]
  · have : ¬ d = t := fun k => e k.symm
    simp [e, this]
theorem TRel.put {T : TM} {N : Nat} {tmps : Array Value} (h : TRel E ρ T N tmps) {d : Nat} (hd : d < N) {v : SV} {u : Value} (hv : Den E ρ v u) : TRel E ρ (T.set d v) N (tmps.setIfInBounds d u) := by
  refine ⟨by simpa using h.size, fun t => ?_⟩
  rw [TM.val_set, getD_set _ _ _ _ _ (h.size ▸ hd)]
  split
  · exact hv
  · exact h.get t
end
/-- Entries of a map. -/
noncomputable def EsR (E : Val) (ρ : Rho) : List (SV × SV × Nat) → List MapEntry → Prop
  | [], ms => ms = []
  | (k, v, b) :: l, ms => ∃ m t, Den E ρ k m.key ∧ Den E ρ v m.val ∧ m.born = b ∧ EsR E ρ l t ∧ ms = m :: t
theorem EsR.mono {E : Val} {ρ ρ' : Rho} (hr : ρ.le ρ') : ∀ {l : List (SV × SV × Nat)} {ms : List MapEntry}, EsR E ρ l ms → EsR E ρ' l ms
  | [], _, h => h
  | (k, v, b) :: l, ms, ⟨m, t, h1, h2, h3, h4, h5⟩ => ⟨m, t, h1.mono hr, h2.mono hr, h3, h4.mono hr, h5⟩
/-- The blocks that are a name's. -/
noncomputable def foot (E : Val) : SBlk → Place → Nat → Prop
  | .abs i _, p, k => E.F i p k
  | _, p, k => p.b = k
noncomputable def SBlk.isAbs : SBlk → Bool
  | .abs _ _ => true
  | _ => false
theorem foot_self {E : Val} {b : SBlk} {p : Place} (h : b.isAbs = false) : foot E b p p.b := by
  cases b <;> first | rfl | cases h
theorem foot_one {E : Val} {b : SBlk} {p : Place} {k : Nat} (h : b.isAbs = false) (hk : foot E b p k) : p.b = k := by
  cases b <;> first | exact hk | cases h
/-- A block that has a name, as it lies. -/
noncomputable def BRel (E : Val) (ρ : Rho) (w : World) (p : Place) : SBlk → Prop
  | .cells l ext => ∃ (c : Array Value) (el : TypeId) (us : List Value), w.heap[p.b]? = some (.cells c el (0, 0)) ∧ DenL E ρ l us ∧ (∀ (i : Nat) (u : Value), us[i]? = some u → c[p.o + i]? = some u) ∧
      l.length ≤ p.e ∧ p.o + p.e ≤ c.size ∧ (∀ n, ext = some n → p.e = n)
  | .ro l => p.o = 0 ∧ ∃ (us : List Value) (el : TypeId) (fz : Nat × Nat), w.heap[p.b]? = some (.cells us.toArray el fz) ∧ DenL E ρ l us
  | .loop st pend T N params assign body d => ∃ lp : Loop, w.heap[p.b]? = some (.loop lp) ∧ lp.state = st ∧ lp.pending = pend ∧ TRel E ρ T N lp.tmps ∧ lp.params = params ∧ lp.assign = assign ∧ lp.body = body ∧
      ∃ q, ρ d = some q ∧ q.b = lp.defers
  | .dfr taken => w.heap[p.b]? = some (.deferred (if taken then none else some []))
  | .map es clock => ∃ ms : Array MapEntry, w.heap[p.b]? = some (.map ms clock) ∧ EsR E ρ es ms.toList
  | .miter m since seen last => ∃ q, ρ m = some q ∧ p.o = 0 ∧ w.heap[p.b]? = some (.mapIter (some q.b) since seen.toArray last)
  | .bld T a v => p.o = 0 ∧ ∃ u, Den E ρ v u ∧ v.one = true ∧ w.heap[p.b]? = some (.cells #[.pointer (if a then some ⟨p.b, 0, none⟩ else none), u] T (0, 0))
  | .abs i _ => E.W i p w
  | .win i l => ∃ (c : Array Value) (us : List Value), w.heap[p.b]? = some (.cells c (E.C i).2 (0, 0)) ∧ DenL E ρ l us ∧ p.o + l.length ≤ (E.C i).1.size ∧ c.toList = (E.C i).1.toList.take p.o ++ us ++ (E.C i).1.toList.drop (p.o + l.length)
theorem BRel.mono {E : Val} {ρ ρ' : Rho} {w w' : World} {p : Place} {b : SBlk} (h : BRel E ρ w p b) (hr : ρ.le ρ') (hf : ∀ k, foot E b p k → w'.heap[k]? = w.heap[k]?) : BRel E ρ' w' p b := by
  by_cases ha : b.isAbs = true
  · cases b <;> first | (cases ha; done) | exact E.loc _ _ _ _ h hf
  have hw := hf _ (foot_self (by simpa using ha))
  cases b with
  | ro l =>
    obtain ⟨h0, us, el, fz, h1, h2⟩ := h
    exact ⟨h0, us, el, fz, hw.trans h1, h2.mono hr⟩
  | cells l ext =>
    obtain ⟨c, el, us, h1, h2, h3⟩ := h
    exact ⟨c, el, us, hw.trans h1, h2.mono hr, h3⟩
  | loop st pend T N params assign body d =>
    obtain ⟨lp, h1, h2, h3, h4, h5, h6, h7, q, h8, h9⟩ := h
    exact ⟨lp, hw.trans h1, h2, h3, h4.mono hr, h5, h6, h7, q, hr _ _ h8, h9⟩
  | dfr taken => exact hw.trans h
  | map es clock => obtain ⟨ms, h1, h2⟩ := h; exact ⟨ms, hw.trans h1, h2.mono hr⟩
  | miter m since seen last => obtain ⟨q, h1, h2, h3⟩ := h; exact ⟨q, hr _ _ h1, h2, hw.trans h3⟩
  | bld T a v => obtain ⟨h0, u, h1, h2, h3⟩ := h; exact ⟨h0, u, h1.mono hr, h2, hw.trans h3⟩
  | abs i wr => exact E.loc _ _ _ _ h hf
  | win i l => obtain ⟨c, us, h1, h2, h3⟩ := h; exact ⟨c, us, hw.trans h1, h2.mono hr, h3⟩
/-- May it be written? -/
noncomputable def SBlk.rw : SBlk → Bool
  | .ro _ => false
  | .abs _ wr => wr
  | _ => true
/-- The blocks that names of H lie in, and may be written. -/
noncomputable def fpw (E : Val) (ρ : Rho) (H : SH) (k : Nat) : Prop := ∃ s b p, H.get s = some b ∧ b.rw = true ∧ ρ s = some p ∧ foot E b p k
/-- The blocks that names of H lie in. -/
noncomputable def fp (E : Val) (ρ : Rho) (H : SH) (k : Nat) : Prop := ∃ s b p, H.get s = some b ∧ ρ s = some p ∧ foot E b p k
structure HRel (E : Val) (ρ : Rho) (H : SH) (w : World) : Prop where
  blk : ∀ s b, H.get s = some b → ∃ p, ρ s = some p ∧ BRel E ρ w p b
  inj : ∀ s t bs bt ps pt k, H.get s = some bs → H.get t = some bt → ρ s = some ps → ρ t = some pt → foot E bs ps k → foot E bt pt k → s = t
  kept : E.K w
  free : ∀ k, E.Kf k → ¬ fpw E ρ H k
/-- All but the blocks of S is as it was. -/
structure FrS (S : Nat → Prop) (w w' : World) : Prop where
  os : w'.os = w.os
  tape : w'.tape = w.tape
  output : w'.output = w.output
  size : w.heap.size ≤ w'.heap.size
  block : ∀ k, k < w.heap.size → ¬ S k → w'.heap[k]? = w.heap[k]?
theorem FrS.refl (S : Nat → Prop) (w : World) : FrS S w w := ⟨rfl, rfl, rfl, Nat.le_refl _, fun _ _ _ => rfl⟩
theorem FrS.trans {S T U : Nat → Prop} {a b c : World} (h : FrS S a b) (k : FrS T b c) (hS : ∀ i, i < a.heap.size → S i → U i) (hT : ∀ i, i < a.heap.size → T i → U i) : FrS U a c :=
  ⟨k.os.trans h.os, k.tape.trans h.tape, k.output.trans h.output, Nat.le_trans h.size k.size,
    fun i hi hn => (k.block i (Nat.lt_of_lt_of_le hi h.size) (fun ht => hn (hT i hi ht))).trans (h.block i hi (fun hs => hn (hS i hi hs)))⟩
theorem heap_lt {w : World} {k : Nat} {o : Obj} (h : w.heap[k]? = some o) : k < w.heap.size := (Array.getElem?_eq_some_iff.1 h).1
theorem BRel.ltf {E : Val} {ρ : Rho} {w : World} {p : Place} {b : SBlk} (h : BRel E ρ w p b) {k : Nat} (hk : foot E b p k) : k < w.heap.size := by
  cases b with
  | ro l => obtain ⟨h0, us, el, fz, h1, h2⟩ := h; cases hk; exact heap_lt h1
  | cells l ext => obtain ⟨c, el, us, h1, _⟩ := h; cases hk; exact heap_lt h1
  | loop st pend T N params assign body d => obtain ⟨lp, h1, _⟩ := h; cases hk; exact heap_lt h1
  | dfr taken => cases hk; exact heap_lt h
  | map es clock => obtain ⟨ms, h1, h2⟩ := h; cases hk; exact heap_lt h1
  | miter m since seen last => obtain ⟨q, h1, h2, h3⟩ := h; cases hk; exact heap_lt h3
  | bld T a v => obtain ⟨h0, u, h1, h2, h3⟩ := h; cases hk; exact heap_lt h3
  | abs i wr => exact E.lt _ _ _ _ h hk
  | win i l => obtain ⟨c, us, h1, _⟩ := h; cases hk; exact heap_lt h1
theorem BRel.lt {E : Val} {ρ : Rho} {w : World} {p : Place} {b : SBlk} (h : BRel E ρ w p b) (ha : b.isAbs = false := by rfl) : p.b < w.heap.size := h.ltf (foot_self ha)
theorem HRel.keep {E : Val} {ρ : Rho} {H : SH} {w w' : World} (r : HRel E ρ H w) (fr : FrS (fpw E ρ H) w w') : E.K w' :=
  E.Kloc _ _ r.kept (fun k hk => fr.block k (E.Klt _ _ r.kept hk) (r.free k hk))
theorem HRel.frees {E : Val} {ρ ρ' : Rho} {H H' : SH} {w : World} (r : HRel E ρ H w) (h : ∀ k, fpw E ρ' H' k → fpw E ρ H k ∨ w.heap.size ≤ k) : ∀ k, E.Kf k → ¬ fpw E ρ' H' k := fun k hk hf => by
  rcases h k hf with h | h
  · exact r.free k hk h
  · exact Nat.lt_irrefl _ (Nat.lt_of_lt_of_le (E.Klt _ _ r.kept hk) h)
/-- One step of a run, by names. -/
structure Stp (E : Val) (ρ : Rho) (H : SH) (n : Nat) (w : World) (ρ' : Rho) (H' : SH) (n' : Nat) (w' : World) : Prop where
  ext : ∀ s, s < n → ρ' s = ρ s
  le : n ≤ n'
  fresh : ∀ s, n' ≤ s → ρ' s = none
  rel : HRel E ρ' H' w'
  fr : FrS (fpw E ρ H) w w'
  cl : ∀ k, fp E ρ' H' k → fp E ρ H k ∨ w.heap.size ≤ k
  clw : ∀ k, fpw E ρ' H' k → fpw E ρ H k ∨ w.heap.size ≤ k
/-- A state by names. -/
structure StR (E : Val) (ρ : Rho) (H : SH) (n : Nat) (w : World) : Prop where
  rel : HRel E ρ H w
  fresh : ∀ s, n ≤ s → ρ s = none
section
variable {E : Val} {ρ ρ' ρ'' : Rho} {H H' H'' : SH} {n n' n'' : Nat} {w w' w'' : World}
theorem Stp.to (h : Stp E ρ H n w ρ' H' n' w') : StR E ρ' H' n' w' := ⟨h.rel, h.fresh⟩
theorem le_of_ext (hf : ∀ s, n ≤ s → ρ s = none) (h : ∀ s, s < n → ρ' s = ρ s) : ρ.le ρ' := by
  intro s p hs
  by_cases e : s < n
  · rw [h s e]; exact hs
  · rw [hf s (by omega)] at hs; cases hs
theorem Stp.mono (h : Stp E ρ H n w ρ' H' n' w') (r : StR E ρ H n w) : ρ.le ρ' := le_of_ext r.fresh h.ext
theorem Stp.refl (r : StR E ρ H n w) : Stp E ρ H n w ρ H n w := ⟨fun _ _ => rfl, Nat.le_refl _, r.fresh, r.rel, .refl _ _, fun _ h => .inl h, fun _ h => .inl h⟩
theorem Stp.trans (h : Stp E ρ H n w ρ' H' n' w') (k : Stp E ρ' H' n' w' ρ'' H'' n'' w'') : Stp E ρ H n w ρ'' H'' n'' w'' := by
  refine ⟨fun s hs => (k.ext s (Nat.lt_of_lt_of_le hs h.le)).trans (h.ext s hs), Nat.le_trans h.le k.le, k.fresh, k.rel, ?_, ?_, ?_⟩
  · refine h.fr.trans k.fr (fun _ _ h => h) (fun i hi hS => ?_)
    rcases h.clw i hS with e | e
    · exact e
    · omega
  · intro i hi
    rcases k.cl i hi with e | e
    · exact h.cl i e
    · exact .inr (Nat.le_trans h.fr.size e)
  · intro i hi
    rcases k.clw i hi with e | e
    · exact h.clw i e
    · exact .inr (Nat.le_trans h.fr.size e)
/-- A world that differs in one block alone. -/
structure WOnly (b : Nat) (w w' : World) : Prop where
  os : w'.os = w.os
  tape : w'.tape = w.tape
  output : w'.output = w.output
  size : w'.heap.size = w.heap.size
  block : ∀ k, k ≠ b → w'.heap[k]? = w.heap[k]?
theorem WOnly.refl (b : Nat) (w : World) : WOnly b w w := ⟨rfl, rfl, rfl, rfl, fun _ _ => rfl⟩
theorem WOnly.trans {b : Nat} {x y z : World} (h : WOnly b x y) (k : WOnly b y z) : WOnly b x z :=
  ⟨k.os.trans h.os, k.tape.trans h.tape, k.output.trans h.output, k.size.trans h.size, fun i hi => (k.block i hi).trans (h.block i hi)⟩
theorem WOnly.setCell (w : World) (a : Addr) (u : Value) : WOnly a.block w (w.setCell a u) :=
  ⟨rfl, rfl, rfl, by simp [World.setCell], fun k hk => Below.heap_setCell w a u k hk⟩
/-- A block that is written in place. -/
theorem Stp.write (r : StR E ρ H n w) {s : Nat} {b b' : SBlk} {p : Place} (hs : H.get s = some b) (hp : ρ s = some p) (ho : WOnly p.b w w') (hb : BRel E ρ w' p b') (hrw : b.rw = true := by rfl) (hna' : b'.isAbs = false := by rfl) (hna : b.isAbs = false := by rfl) : Stp E ρ H n w ρ (H.set s b') n w' := by
  have key : ∀ k, p.b = k → foot E b p k := fun k e => e ▸ foot_self hna
  have fr : FrS (fpw E ρ H) w w' := ⟨ho.os, ho.tape, ho.output, by rw [ho.size]; exact Nat.le_refl _, fun k hk hn => ho.block k (fun e => hn ⟨s, b, p, hs, hrw, hp, key k e.symm⟩)⟩
  have clw : ∀ k, fpw E ρ (H.set s b') k → fpw E ρ H k ∨ w.heap.size ≤ k := by
    rintro k ⟨t, c, q, ht, hw, hq, e⟩
    rw [Tr.get_set] at ht
    split at ht
    · rename_i e2; subst e2; cases ht; rw [hp] at hq; cases hq; exact .inl ⟨t, b, p, hs, hrw, hp, key k (foot_one hna' e)⟩
    · exact .inl ⟨t, c, q, ht, hw, hq, e⟩
  refine ⟨fun _ _ => rfl, Nat.le_refl _, r.fresh, ⟨?_, ?_, r.rel.keep fr, r.rel.frees clw⟩, fr, ?_, clw⟩
  · intro t c ht
    rw [Tr.get_set] at ht
    split at ht
    · rename_i e; subst e; cases ht; exact ⟨p, hp, hb⟩
    · rename_i e
      obtain ⟨q, hq, hc⟩ := r.rel.blk t c ht
      exact ⟨q, hq, hc.mono (.refl _) (fun k hk => ho.block k (fun e2 => e (r.rel.inj t s c b q p k ht hs hq hp hk (key k e2.symm))))⟩
  · intro t1 t2 b1 b2 p1 p2 k h1 h2 q1 q2 f1 f2
    have back : ∀ t c q, (H.set s b').get t = some c → ρ t = some q → foot E c q k → ∃ c', H.get t = some c' ∧ foot E c' q k := by
      intro t c q ht hq hk
      rw [Tr.get_set] at ht
      split at ht
      · rename_i e; subst e; cases ht
        rw [hp] at hq; cases hq
        exact ⟨b, hs, key k (foot_one hna' hk)⟩
      · exact ⟨c, ht, hk⟩
    obtain ⟨c1, g1, g1'⟩ := back _ _ _ h1 q1 f1
    obtain ⟨c2, g2, g2'⟩ := back _ _ _ h2 q2 f2
    exact r.rel.inj t1 t2 c1 c2 p1 p2 k g1 g2 q1 q2 g1' g2'
  · rintro k ⟨t, c, q, ht, hq, e⟩
    rw [Tr.get_set] at ht
    split at ht
    · rename_i e2; subst e2; cases ht; rw [hp] at hq; cases hq; exact .inl ⟨t, b, p, hs, hp, key k (foot_one hna' e)⟩
    · exact .inl ⟨t, c, q, ht, hq, e⟩
/-- One name more. -/
noncomputable def Rho.upd (ρ : Rho) (s : Nat) (p : Place) : Rho := fun t => if t = s then some p else ρ t
theorem Rho.upd_same (ρ : Rho) (s : Nat) (p : Place) : (ρ.upd s p) s = some p := by simp [Rho.upd]
theorem Rho.upd_other (ρ : Rho) {s t : Nat} (p : Place) (h : t ≠ s) : (ρ.upd s p) t = ρ t := by simp [Rho.upd, h]
theorem Rho.le_upd {s : Nat} {p : Place} (h : ρ s = none) : ρ.le (ρ.upd s p) := by
  intro t q ht
  rw [Rho.upd_other ρ p (by rintro rfl; rw [h] at ht; cases ht)]; exact ht
theorem heap_push (w : World) (o : Obj) : (w.alloc o).heap[w.heap.size]? = some o := by
  show (w.heap.push o)[w.heap.size]? = some o
  exact Array.getElem?_push_size
/-- A block that is new, under any name that is free. -/
theorem HRel.alloc (r : HRel E ρ H w) {s : Nat} (hs : ρ s = none) (o : Obj) {b : SBlk} {e : Nat} (hb : BRel E (ρ.upd s ⟨w.heap.size, 0, e, undef⟩) (w.alloc o) ⟨w.heap.size, 0, e, undef⟩ b) (hna : b.isAbs = false) :
    HRel E (ρ.upd s ⟨w.heap.size, 0, e, undef⟩) (H.set s b) (w.alloc o) ∧ (∀ k, fp E (ρ.upd s ⟨w.heap.size, 0, e, undef⟩) (H.set s b) k → fp E ρ H k ∨ w.heap.size ≤ k) ∧ (∀ k, fpw E (ρ.upd s ⟨w.heap.size, 0, e, undef⟩) (H.set s b) k → fpw E ρ H k ∨ w.heap.size ≤ k) := by
  have hle : ρ.le (ρ.upd s ⟨w.heap.size, 0, e, undef⟩) := Rho.le_upd hs
  have old : ∀ t c, t ≠ s → (H.set s b).get t = some c → H.get t = some c := fun t c ht h => by rw [Tr.get_set, if_neg ht] at h; exact h
  have one : ∀ k, foot E b ⟨w.heap.size, 0, e, undef⟩ k → k = w.heap.size := fun k hk => (foot_one hna hk).symm
  have new : ∀ c, (H.set s b).get s = some c → c = b := fun c h => by rw [Tr.get_set, if_pos rfl] at h; cases h; rfl
  have clw : ∀ k, fpw E (ρ.upd s ⟨w.heap.size, 0, e, undef⟩) (H.set s b) k → fpw E ρ H k ∨ w.heap.size ≤ k := by
    rintro k ⟨t, c, q, ht, hw, hq, e2⟩
    by_cases e1 : t = s
    · subst e1
      rw [Rho.upd_same] at hq; cases hq
      obtain rfl := new _ ht
      exact .inr (by rw [one k e2]; exact Nat.le_refl _)
    · obtain ⟨q', hq', hc⟩ := r.blk t c (old t c e1 ht)
      rw [hle _ _ hq'] at hq; cases hq
      exact .inl ⟨t, c, _, old t c e1 ht, hw, hq', e2⟩
  refine ⟨⟨?_, ?_, E.Kloc _ _ r.kept (fun k hk => Below.heap_alloc w o _ (E.Klt _ _ r.kept hk)), r.frees clw⟩, ?_, clw⟩
  · intro t c ht
    by_cases e1 : t = s
    · subst e1
      rw [Tr.get_set, if_pos rfl] at ht
      cases ht
      exact ⟨_, Rho.upd_same _ _ _, hb⟩
    · obtain ⟨q, hq, hc⟩ := r.blk t c (old t c e1 ht)
      exact ⟨q, hle _ _ hq, hc.mono hle (fun k hk => Below.heap_alloc w o _ (hc.ltf hk))⟩
  · intro t1 t2 b1 b2 p1 p2 k h1 h2 q1 q2 f1 f2
    by_cases e3 : t1 = s
    · subst e3
      rw [Rho.upd_same] at q1; cases q1
      obtain rfl := new _ h1
      by_cases e4 : t2 = t1
      · exact e4.symm
      · obtain ⟨q, hq, hc⟩ := r.blk t2 b2 (old t2 b2 e4 h2)
        rw [hle _ _ hq] at q2; cases q2
        have := hc.ltf f2
        have := one k f1
        omega
    · obtain ⟨q, hq, hc⟩ := r.blk t1 b1 (old t1 b1 e3 h1)
      rw [hle _ _ hq] at q1; cases q1
      by_cases e4 : t2 = s
      · subst e4
        rw [Rho.upd_same] at q2; cases q2
        obtain rfl := new _ h2
        have := hc.ltf f1
        have := one k f2
        omega
      · obtain ⟨q', hq', hc'⟩ := r.blk t2 b2 (old t2 b2 e4 h2)
        rw [hle _ _ hq'] at q2; cases q2
        exact r.inj t1 t2 b1 b2 _ _ k (old t1 b1 e3 h1) (old t2 b2 e4 h2) hq hq' f1 f2
  · rintro k ⟨t, c, q, ht, hq, e2⟩
    by_cases e1 : t = s
    · subst e1
      rw [Rho.upd_same] at hq; cases hq
      obtain rfl := new _ ht
      exact .inr (by rw [one k e2]; exact Nat.le_refl _)
    · obtain ⟨q', hq', hc⟩ := r.blk t c (old t c e1 ht)
      rw [hle _ _ hq'] at hq; cases hq
      exact .inl ⟨t, c, _, old t c e1 ht, hq', e2⟩
theorem FrS.alloc (S : Nat → Prop) (w : World) (o : Obj) : FrS S w (w.alloc o) := ⟨rfl, rfl, rfl, by simp, fun k hk _ => Below.heap_alloc w o k hk⟩
theorem Stp.alloc (r : StR E ρ H n w) (o : Obj) {b : SBlk} {e : Nat} (hb : BRel E (ρ.upd n ⟨w.heap.size, 0, e, undef⟩) (w.alloc o) ⟨w.heap.size, 0, e, undef⟩ b) (hna : b.isAbs = false := by rfl) :
    Stp E ρ H n w (ρ.upd n ⟨w.heap.size, 0, e, undef⟩) (H.set n b) (n + 1) (w.alloc o) := by
  obtain ⟨h1, h2, h3⟩ := r.rel.alloc (r.fresh n (Nat.le_refl _)) o hb hna
  exact ⟨fun s hs => Rho.upd_other ρ _ (by omega), by omega, fun s hs => (Rho.upd_other ρ _ (by omega)).trans (r.fresh s (by omega)), h1, .alloc _ w o, h2, h3⟩
end
end Go.Proofs.YtfiangiajhdhcaaDoor
