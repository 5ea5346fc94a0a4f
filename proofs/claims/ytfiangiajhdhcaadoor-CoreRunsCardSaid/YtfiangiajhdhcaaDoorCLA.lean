/- The contract of Local: its letters. No condition. -/
import Derived.Test.YtfiangiajhdhcaaDoorCL0
import Derived.Test.YtfiangiajhdhcaaDoorE
namespace Go.Proofs.YtfiangiajhdhcaaDoor
open Go.RowKit
set_option linter.unusedVariables false
set_option maxRecDepth 100000

/-! ### Programs, as things -/
structure Pg where
  L : Nat
  A : Nat → Int
  B : Nat → Int
  C : Nat → Int
  D : Nat → Int
/-- The instruction at a place; where there is none, a Halt. -/
noncomputable def Pg.ins (p : Pg) (z : Int) (j : Nat) : Int := if 0 ≤ z ∧ z < p.L then at4 j (p.A z.toNat) (p.B z.toNat) (p.C z.toNat) (p.D z.toNat) else at4 j 11 0 0 0
noncomputable def Pg.W (p : Pg) (q : Place) (w : World) : Prop := ∃ av c, q.v = .slice av p.L c ∧ OpsIn w av p.L p.A p.B p.C p.D
noncomputable def Pg.F (p : Pg) (q : Place) (k : Nat) : Prop := 0 < p.L ∧ ∃ a c, q.v = .slice (some a) p.L c ∧ a.block = k
theorem Pg.lt {p : Pg} {q : Place} {w : World} {k : Nat} (h : p.W q w) (hk : p.F q k) : k < w.heap.size := by
  obtain ⟨av, c, h1, h2⟩ := h
  obtain ⟨h0, a, c', h3, rfl⟩ := hk
  rw [h3] at h1
  cases h1
  rcases h2 with h2 | ⟨b, off, e, hb, _⟩
  · omega
  · cases e; exact hb
theorem Pg.loc {p : Pg} {q : Place} {w w' : World} (h : p.W q w) (hf : ∀ k, p.F q k → w'.heap[k]? = w.heap[k]?) : p.W q w' := by
  obtain ⟨av, c, h1, h2⟩ := h
  refine ⟨av, c, h1, ?_⟩
  rcases h2 with h2 | ⟨b, off, rfl, hb, hc⟩
  · exact .inl h2
  · by_cases h0 : p.L = 0
    · exact .inl h0
    · have he : w'.heap[b]? = w.heap[b]? := hf b ⟨by omega, _, c, h1, rfl⟩
      have hlt : b < w'.heap.size := by
        have : w'.heap[b]? = some w.heap[b] := by rw [he]; simp [hb]
        exact heap_lt this
      have hcell : ∀ o, w'.cell? ⟨b, o, none⟩ = w.cell? ⟨b, o, none⟩ := fun o => World.cell?_of_block (a := ⟨b, o, none⟩) he
      refine .inr ⟨b, off, rfl, hlt, fun i hi => ?_⟩
      obtain ⟨k0, k1, k2, k3⟩ := hc i hi
      exact ⟨(hcell _).trans k0, (hcell _).trans k1, (hcell _).trans k2, (hcell _).trans k3⟩
/-- What lies at an instruction. -/
theorem Pg.elt {p : Pg} {q : Place} {w : World} (h : p.W q w) {E : Val} {i : Nat} (hW : E.W i = p.W) {e : IE} {k : Nat} (he : ∀ j, j < 4 → E.I (k + j) = p.ins (e.den E.I) j) (h0 : 0 ≤ e.den E.I) (h1 : e.den E.I < p.L) :
    ∃ b a : Nat, (∃ c, q.v = .slice (some ⟨b, a, none⟩) p.L c) ∧ EltW E i q b (a + (e.den E.I).toNat * 4) [.int .i64 (.at k), .int .i64 (.at (k + 1)), .int .i64 (.at (k + 2)), .int .i64 (.at (k + 3))] := by
  obtain ⟨av, c, g1, g2⟩ := h
  rcases g2 with g2 | ⟨b, off, rfl, hb, hc⟩
  · omega
  · refine ⟨b, off, ⟨c, g1⟩, fun w' hw' j ec hj => ?_⟩
    rw [hW] at hw'
    obtain ⟨av', c', k1, k2⟩ := hw'
    rw [g1] at k1
    cases k1
    rcases k2 with k2 | ⟨b', off', e', hb', hc'⟩
    · omega
    · cases e'
      obtain ⟨m0, m1, m2, m3⟩ := hc' (e.den E.I).toNat (by omega)
      have hin : ∀ j, p.ins (e.den E.I) j = at4 j (p.A (e.den E.I).toNat) (p.B (e.den E.I).toNat) (p.C (e.den E.I).toNat) (p.D (e.den E.I).toNat) := fun j => by simp [Pg.ins, h0, h1]
      have hj4 : j < 4 := (List.getElem?_eq_some_iff.1 hj).1
      have c4 : j = 0 ∨ j = 1 ∨ j = 2 ∨ j = 3 := by omega
      rcases c4 with rfl | rfl | rfl | rfl
      · simp at hj; subst hj; exact ⟨_, m0, by have := he 0 (by omega); simp only [EC.ok, IE.den]; rw [show k = k + 0 from rfl, this, hin]; rfl⟩
      · simp at hj; subst hj; exact ⟨_, m1, by have := he 1 (by omega); simp only [EC.ok, IE.den]; rw [this, hin]; rfl⟩
      · simp at hj; subst hj; exact ⟨_, m2, by have := he 2 (by omega); simp only [EC.ok, IE.den]; rw [this, hin]; rfl⟩
      · simp at hj; subst hj; exact ⟨_, m3, by have := he 3 (by omega); simp only [EC.ok, IE.den]; rw [this, hin]; rfl⟩
/-! ### Values in other letters -/
section
variable {E : Val}
theorem cv_refl (v : SV) : Cv E E v v := fun _ _ h => h
theorem cv_int {k : IntKind} {e f : IE} (h : e.den E.I = f.den E.I) : Cv E E (.int k e) (.int k f) := fun ρ u hd => by
  simp only [Den] at hd ⊢
  rw [← h]; exact hd
theorem cv_side {e f : IE} (h : e.den E.I = f.den E.I) : Cv E E (.side e) (.side f) := fun ρ u hd => by
  simp only [Den] at hd ⊢
  rw [← h]; exact hd
theorem cv_bool {b : Bool} {f : IE} (h : (if b then (1 : Int) else 0) = f.den E.I) : Cv E E (.bool b) (.side f) := fun ρ u hd => by
  simp only [Den] at hd ⊢
  rw [← h]
  cases b <;> simpa using hd
noncomputable def CvS (E : Val) : List SV → List SV → Prop
  | [], [] => True
  | a :: l, b :: m => Cv E E a b ∧ CvS E l m
  | _, _ => False
theorem cvs_den {ρ : Rho} : ∀ {l m : List SV} {us : List Value}, CvS E l m → DenL E ρ l us → DenL E ρ m us
  | [], [], us, _, h => h
  | a :: l, b :: m, us, hc, ⟨u, t, h1, h2, h3⟩ => ⟨u, t, hc.1 _ _ h1, cvs_den hc.2 h2, h3⟩
  | [], _ :: _, _, hc, _ => hc.elim
  | _ :: _, [], _, hc, _ => hc.elim
theorem cvs_len : ∀ {l m : List SV}, CvS E l m → l.length = m.length
  | [], [], _ => rfl
  | a :: l, b :: m, hc => by simp [cvs_len hc.2]
  | [], _ :: _, hc => hc.elim
  | _ :: _, [], hc => hc.elim
theorem cv_agg {l m : List SV} (h : CvS E l m) : Cv E E (.agg l) (.agg m) := fun ρ u hd => by
  obtain ⟨a, ha, rfl⟩ := hd
  exact ⟨a, cvs_den h ha, rfl⟩
theorem cv_tup {l m : List SV} (h : CvS E l m) : Cv E E (.tup l) (.tup m) := fun ρ u hd => by
  obtain ⟨a, ha, rfl⟩ := hd
  exact ⟨a, cvs_den h ha, rfl⟩
theorem cb_cells {l m : List SV} {e : Option Nat} (h : CvS E l m) : Cb E E (.cells l e) (.cells m e) :=
  ⟨fun ρ w p hb => by
    obtain ⟨c, el, us, h1, h2, h3, h4, h5⟩ := hb
    exact ⟨c, el, us, h1, cvs_den h h2, h3, by rw [← cvs_len h]; exact h4, h5⟩, fun _ _ => Iff.rfl, rfl⟩
theorem cb_refl (b : SBlk) : Cb E E b b := ⟨fun _ _ _ h => h, fun _ _ => Iff.rfl, rfl⟩
end
/-! ### The contract of Local -/
noncomputable def svN (I : Nat → Int) : SV → Int
  | .int _ e => e.den I
  | .bool b => if b then 1 else 0
  | .side e => e.den I
  | _ => 0
/-- The core's numbers behind it. -/
noncomputable def blkN (I : Nat → Int) (bs : List SBlk) (j : Nat) : Int := match bs with | .cells l _ :: _ => svN I (l.getD j .any) | _ => 0
/-- The event's numbers, and whether there is one. -/
noncomputable def tupN (I : Nat → Int) (v : SV) (j : Nat) : Int := match v with | .tup [.agg l, b] => if j < 7 then svN I (l.getD j .any) else svN I b | _ => 0
noncomputable def coreN : SBlk := .cells [.int .i64 (.at 30), .int .i64 (.at 31), .int .i64 (.at 32), .int .i64 (.at 33), .int .i64 (.at 34), .int .i64 (.at 35), .side (.at 36), .int .i64 (.at 7), .asl 1 (.at 8) 4 [] []] (some 9)
noncomputable def locV : SV := .tup [.agg [.int .i64 (.at 40), .int .i64 (.at 41), .int .i64 (.at 42), .int .i64 (.at 43), .int .i64 (.at 44), .int .i64 (.at 45), .int .i64 (.at 46)], .side (.at 47)]
theorem tsY15_lit : ∀ g l, (g, l) ∈ tsY15 → g < 9 ∧ l.all SV.isLit = true := by
  have h : (tsY15.all fun x => decide (x.1 < 9) && x.2.all SV.isLit) = true := by kernel_rfl
  intro g l hm
  have := List.all_eq_true.1 h _ hm
  simp only [Bool.and_eq_true, decide_eq_true_eq] at this
  exact this
/-- The letters of a core that is about to do its next instruction. -/
structure LocE (E : Val) (p : Pg) : Prop where
  W : E.W 7 = p.W
  F : E.F 7 = p.F
  len : E.I 8 = p.L
  i0 : ∀ j, j < 4 → E.I (9 + j) = p.ins (E.I 4) j
  i1 : ∀ j, j < 4 → E.I (13 + j) = p.ins (E.I 4 + 1) j
  i2 : ∀ j, j < 4 → E.I (17 + j) = p.ins (E.I 10) j
  i3 : ∀ j, j < 4 → E.I (21 + j) = p.ins (E.I 11) j
theorem local_case {t : LTree} {A0 : Asm} (hc : t.check 9 preP.length preP runLoc A0 = true) (hs : t.all (fun v bs => shapeV v && shapeB bs) = true) {E : Val} {p : Pg} (hE : LocE E p) (hA : A0.Holds E.I) (h4 : 0 ≤ E.I 4 ∧ E.I 4 ≤ 32)
    (hN : ∀ j, j < 7 → blkN E.I (t.at E.I).2 j = E.I (30 + j)) (hV : ∀ j, j < 8 → tupN E.I (t.at E.I).1 j = E.I (40 + j)) (h7 : blkN E.I (t.at E.I).2 7 = E.I 7) :
    AbsOk Tryd.prog 9 tsY15 E ⟨40, [.ptr 0 0], preP0, [coreN, .abs 7 true], [], locV⟩ := by
  have h41 : (IE.bin .add .i64 (.at 4) (.lit 1)).den E.I = E.I 4 + 1 := by
    simp only [IE.den, arith, IntKind.wrap, IntKind.bits, IntKind.signed]
    simp
    omega
  have ok := absOk_tree (P := Tryd.prog) (G := 9) (B := fun _ => {}) (ts := tsY15) (k := 3000) (f := 40) (args := [.ptr 0 0]) (pre := preP) (pre0 := preP0) (t := t) (A0 := A0) (E := E) hc hA (fun A _ => BaseOk.none _ E) rfl rfl rfl
    (fun k i j hi hj => by
      match k with
      | 0 => simp [preP0, preP] at hi hj; subst hi hj; rfl
      | 1 => simp [preP0, preP] at hi hj; subst hi hj; rfl
      | k + 2 => simp [preP0] at hi)
    (fun bs w _ hW k i b hi hb => by
      match k with
      | 1 => simp [preP] at hi; subst hi; exact hW 1 _ b rfl hb
      | k + 2 => simp [preP] at hi
      | 0 =>
        simp [preP] at hi; subst hi
        obtain ⟨c, el, us, g1, g2, g3⟩ := hW 0 _ b rfl hb
        refine ⟨c, el, us, g1, ?_, g3⟩
        have conv : ∀ u, Den E (rhoS bs) (.asl 1 (.at 8) 4 [] []) u → Den E (rhoS bs) (.asl 1 (.at 8) 4 [] elsP) u := by
          rintro u ⟨q, k0, k1, k2, av, c, k3, k4, _⟩
          refine ⟨q, k0, k1, k2, av, c, k3, fun x hx => (by cases hx), fun x hx x0 x1 => ?_⟩
          have hq : p.W q w := by
            have := hW 1 (.abs 7 true) q rfl k0
            have h2 : E.W 7 q w := this
            rw [hE.W] at h2; exact h2
          have hlen : (IE.at 8).den E.I = p.L := hE.len
          have key : ∀ (e : IE) (k : Nat), (∀ j, j < 4 → E.I (k + j) = p.ins (e.den E.I) j) → 0 ≤ e.den E.I → e.den E.I < (IE.at 8).den E.I → ∃ b a : Nat, av = some ⟨b, a, none⟩ ∧ EltW E 7 q b (a + (e.den E.I).toNat * 4) (ecq k) := fun e k he y0 y1 => by
            rw [hlen] at y1
            obtain ⟨b, a, ⟨c', z1⟩, z2⟩ := Pg.elt hq hE.W he y0 y1
            refine ⟨b, a, ?_, z2⟩
            rw [← k1, k3] at z1
            injection z1
          simp only [elsP, List.mem_cons, List.not_mem_nil, or_false] at hx
          rcases hx with rfl | rfl | rfl | rfl
          · exact key (.at 4) 9 hE.i0 x0 x1
          · exact key _ 13 (fun j hj => by rw [h41]; exact hE.i1 j hj) x0 x1
          · exact key (.at 10) 17 hE.i2 x0 x1
          · exact key (.at 11) 21 hE.i3 x0 x1
        have split : ∀ (l : List SV) (us : List Value), DenL E (rhoS bs) (l ++ [.asl 1 (.at 8) 4 [] []]) us → DenL E (rhoS bs) (l ++ [.asl 1 (.at 8) 4 [] elsP]) us := by
          intro l
          induction l with
          | nil => rintro us ⟨u, t, a1, a2, a3⟩; exact ⟨u, t, conv u a1, a2, a3⟩
          | cons v l ih => rintro us ⟨u, t, a1, a2, a3⟩; exact ⟨u, t, a1, ih t a2, a3⟩
        exact split [.int .i64 (.at 0), .int .i64 (.at 1), .int .i64 (.at 2), .int .i64 (.at 3), .int .i64 (.at 4), .int .i64 (.at 5), .side (.at 6), .int .i64 (.at 7)] us g2)
  have hsh := LTree.all_at (I := E.I) hs
  generalize t.at E.I = o at ok hN hV h7 hsh
  obtain ⟨v, bs⟩ := o
  simp only [Bool.and_eq_true] at hsh ok hN hV h7
  obtain ⟨s1, s2⟩ := hsh
  have cvV : Cv E E v locV := by
    unfold shapeV at s1
    split at s1
    · have g := fun j hj => hV j hj
      refine cv_tup ⟨cv_agg ⟨cv_int (g 0 (by omega)), cv_int (g 1 (by omega)), cv_int (g 2 (by omega)), cv_int (g 3 (by omega)), cv_int (g 4 (by omega)), cv_int (g 5 (by omega)), cv_int (g 6 (by omega)), trivial⟩, cv_bool (g 7 (by omega)), trivial⟩
    · cases s1
  refine AbsOk.told ok cvV ?_ ?_
  · unfold shapeB at s2
    split at s2 <;> first | rfl | cases s2
  · unfold shapeB at s2
    split at s2
    · intro k j j' hj hj'
      match k with
      | 0 =>
        simp at hj hj'; subst hj hj'
        exact cb_cells ⟨cv_int (hN 0 (by omega)), cv_int (hN 1 (by omega)), cv_int (hN 2 (by omega)), cv_int (hN 3 (by omega)), cv_int (hN 4 (by omega)), cv_int (hN 5 (by omega)), cv_side (hN 6 (by omega)), cv_int h7, cv_refl _, trivial⟩
      | 1 => simp at hj hj'; subst hj hj'; exact cb_refl _
      | k + 2 => simp at hj
    · intro k j j' hj hj'
      match k with
      | 0 =>
        simp at hj hj'; subst hj hj'
        exact cb_cells ⟨cv_int (hN 0 (by omega)), cv_int (hN 1 (by omega)), cv_int (hN 2 (by omega)), cv_int (hN 3 (by omega)), cv_int (hN 4 (by omega)), cv_int (hN 5 (by omega)), cv_bool (hN 6 (by omega)), cv_int h7, cv_refl _, trivial⟩
      | 1 => simp at hj hj'; subst hj hj'; exact cb_refl _
      | k + 2 => simp at hj
    · cases s2
end Go.Proofs.YtfiangiajhdhcaaDoor
