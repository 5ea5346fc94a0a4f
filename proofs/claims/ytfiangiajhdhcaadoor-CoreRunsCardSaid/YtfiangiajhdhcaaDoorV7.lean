/- The reckoner: a symbolic evaluator of a program, proved sound; one of its texts. No condition. -/
import Derived.Test.YtfiangiajhdhcaaDoorV6
namespace Go.Proofs.YtfiangiajhdhcaaDoor
open Go.RowKit
set_option linter.unusedVariables false
set_option maxRecDepth 100000

section
variable {C : Ctx} {E : Val} {ρ : Rho} {H : SH} {n : Nat} {w : World}
theorem cell_at {w : World} {b o : Nat} {c : Array Value} {el : TypeId} {f : Nat × Nat} (h : w.heap[b]? = some (.cells c el f)) : w.cell? ⟨b, o, none⟩ = c[o]? := by
  simp [World.cell?, h]
theorem not_frozen {w : World} {b o : Nat} {c : Array Value} {el : TypeId} (h : w.heap[b]? = some (.cells c el (0, 0))) : w.frozen? ⟨b, o, none⟩ = false := by
  simp [World.frozen?, h]
/-! ### Load -/
noncomputable def loadL (C : Ctx) (t : TypeId) (l : List SV) (off : Nat) : R SV :=
  (C.agg t).bind fun g => if g then (C.size t).bind fun n => if off + n ≤ l.length then .ok (.agg ((l.drop off).take n)) else .no "load: cells" else ofOpt l[off]? "load: cell"
theorem loadL_ok {t : TypeId} {l : List SV} {us : List Value} {off b o : Nat} {x : SV} (h2 : DenL E ρ l us) (h3 : ∀ (i : Nat) (u : Value), us[i]? = some u → w.cell? ⟨b, o + i, none⟩ = some u) (h : loadL C t l off = .ok x) :
    ∃ u, (loadVar t ⟨b, o + off, none⟩).run C.P w = .ok u w ∧ Den E ρ x u := by
  simp only [loadL, R.bind_ok] at h
  obtain ⟨g, hg, h⟩ := h
  cases g
  · simp only [Bool.false_eq_true, if_false, ofOpt_ok] at h
    obtain ⟨u, hu, hd⟩ := h2.get h
    refine ⟨u, ?_, hd⟩
    have := h3 _ _ hu
    simp only [loadVar, Sem.run_bind, agg_ok w hg, Result.andThen_ok, Bool.false_eq_true, if_false]
    rw [run_load, this]
  · simp only [if_true, R.bind_ok] at h
    obtain ⟨m, hm, h⟩ := h
    split at h
    · rename_i hle
      cases h
      have hl := h2.length
      refine ⟨.agg ((us.drop off).take m).toArray, ?_, _, (h2.drop).take, rfl⟩
      have key := run_loadCells_list (P := C.P) w ⟨b, o + off, none⟩ ((us.drop off).take m) (fun j y hj => by
        rw [add_plain]
        rw [List.getElem?_take] at hj
        split at hj
        · rw [List.getElem?_drop] at hj
          have := h3 _ _ hj
          rwa [← Nat.add_assoc] at this
        · cases hj)
      have hlen : ((us.drop off).take m).length = m := by simp; omega
      rw [hlen] at key
      simp [Sem.run_bind, loadVar, agg_ok w hg, size_ok w hm, key]
    · cases h
noncomputable def ecSV (C : Ctx) : EC → R SV
  | .int k e => .ok (.int k e)
  | .side e => (cmpI C.A .eql e (.lit 1)).bind fun r => .ok (.bool r)
  | .atom i => .ok (.atom i)
theorem ecSV_ok (hA : C.A.Holds E.I) {e : EC} {v : Value} {x : SV} (h : e.ok E v) (hx : ecSV C e = .ok x) : Den E ρ x v := by
  cases e with
  | int k e => cases hx; exact h
  | side e =>
    simp only [ecSV, R.bind_ok] at hx
    obtain ⟨r, hr, hx⟩ := hx
    cases hx
    have := cmpI_ok hA hr
    simp only [cmpD, IE.den] at this
    rw [← this]; exact h
  | atom i => cases hx; exact h
theorem ecL_ok (hA : C.A.Holds E.I) : ∀ {l : List EC} {l' : List SV} {f : Nat → Option Value}, mapR (ecSV C) l = .ok l' → (∀ (j : Nat) (e : EC), l[j]? = some e → ∃ v, f j = some v ∧ e.ok E v) → ∃ us : List Value, DenL E ρ l' us ∧ ∀ (j : Nat) (v : Value), us[j]? = some v → f j = some v
  | [], l', f, h, _ => by cases h; exact ⟨[], rfl, fun j v hv => by simp at hv⟩
  | e :: l, l', f, h, hf => by
    simp only [mapR, R.bind_ok] at h
    obtain ⟨x, hx, xs, hxs, h⟩ := h
    cases h
    obtain ⟨v, h1, h2⟩ := hf 0 e rfl
    obtain ⟨us, k1, k2⟩ := ecL_ok hA (f := fun j => f (j + 1)) hxs (fun j e hj => hf (j + 1) e (by simpa using hj))
    refine ⟨v :: us, ⟨v, us, ecSV_ok hA h2 hx, k1, rfl⟩, fun j u hu => ?_⟩
    cases j with
    | zero => simp at hu; subst hu; exact h1
    | succ j => exact k2 j u (by simpa using hu)
noncomputable def loadE (C : Ctx) (t : TypeId) (l : List EC) (off : Nat) : R SV :=
  (C.agg t).bind fun g => if g then (C.size t).bind fun n => if off + n ≤ l.length then (mapR (ecSV C) ((l.drop off).take n)).bind fun l' => .ok (.agg l') else .no "load: cells" else (ofOpt l[off]? "load: cell").bind (ecSV C)
theorem loadE_ok (hA : C.A.Holds E.I) {t : TypeId} {l : List EC} {off b o : Nat} {x : SV} (h3 : ∀ (j : Nat) (e : EC), l[j]? = some e → ∃ v, w.cell? ⟨b, o + j, none⟩ = some v ∧ e.ok E v) (h : loadE C t l off = .ok x) :
    ∃ u, (loadVar t ⟨b, o + off, none⟩).run C.P w = .ok u w ∧ Den E ρ x u := by
  simp only [loadE, R.bind_ok] at h
  obtain ⟨g, hg, h⟩ := h
  cases g
  · simp only [Bool.false_eq_true, if_false, R.bind_ok, ofOpt_ok] at h
    obtain ⟨e, he, h⟩ := h
    obtain ⟨u, hu, hd⟩ := h3 _ _ he
    refine ⟨u, ?_, ecSV_ok hA hd h⟩
    simp only [loadVar, Sem.run_bind, agg_ok w hg, Result.andThen_ok, Bool.false_eq_true, if_false]
    rw [run_load, hu]
  · simp only [if_true, R.bind_ok] at h
    obtain ⟨m, hm, h⟩ := h
    split at h
    · rename_i hle
      simp only [R.bind_ok] at h
      obtain ⟨l', hl', h⟩ := h
      cases h
      obtain ⟨us, k1, k2⟩ := ecL_ok (ρ := ρ) hA (f := fun j => w.cell? ⟨b, o + (off + j), none⟩) hl' (fun j e hj => by
        rw [List.getElem?_take] at hj
        split at hj
        · rw [List.getElem?_drop] at hj; exact h3 _ _ hj
        · cases hj)
      refine ⟨.agg us.toArray, ?_, us, k1, rfl⟩
      have key := run_loadCells_list (P := C.P) w ⟨b, o + off, none⟩ us (fun j y hj => by
        rw [add_plain, Nat.add_assoc]
        exact k2 j y hj)
      have hlen : us.length = m := by
        rw [k1.length]
        have : ∀ {l : List EC} {l' : List SV}, mapR (ecSV C) l = .ok l' → l'.length = l.length := by
          intro l
          induction l with
          | nil => intro l' h; cases h; rfl
          | cons e l ih =>
            intro l' h
            simp only [mapR, R.bind_ok] at h
            obtain ⟨x, hx, xs, hxs, h⟩ := h
            cases h
            simp [ih hxs]
        rw [this hl']
        simp; omega
      rw [hlen] at key
      simp [Sem.run_bind, loadVar, agg_ok w hg, size_ok w hm, key]
    · cases h
/-- A side is decided where it is loaded. -/
noncomputable def sure1 (C : Ctx) : SV → R SV
  | .side e => (cmpI C.A .eql e (.lit 1)).bind fun r => .ok (.bool r)
  | v => .ok v
noncomputable def sure (C : Ctx) : SV → R SV
  | .side e => (cmpI C.A .eql e (.lit 1)).bind fun r => .ok (.bool r)
  | .agg l => if l.any (fun v => match v with | .side _ => true | _ => false) then (mapR (sure1 C) l).bind fun l' => .ok (.agg l') else .ok (.agg l)
  | v => .ok v
theorem sure1_ok (hA : C.A.Holds E.I) {v x : SV} {u : Value} (h : sure1 C v = .ok x) (hd : Den E ρ v u) : Den E ρ x u := by
  unfold sure1 at h
  split at h
  · simp only [R.bind_ok] at h
    obtain ⟨r, hr, h⟩ := h
    cases h
    have := cmpI_ok hA hr
    simp only [cmpD, IE.den] at this
    rw [← this]; exact hd
  · cases h; exact hd
theorem sureL_ok (hA : C.A.Holds E.I) : ∀ {l l' : List SV} {us : List Value}, mapR (sure1 C) l = .ok l' → DenL E ρ l us → DenL E ρ l' us
  | [], l', us, h, hd => by cases h; exact hd
  | v :: l, l', us, h, ⟨u, t, h1, h2, h3⟩ => by
    simp only [mapR, R.bind_ok] at h
    obtain ⟨x, hx, xs, hxs, h⟩ := h
    cases h
    exact ⟨u, t, sure1_ok hA hx h1, sureL_ok hA hxs h2, h3⟩
theorem sure_ok (hA : C.A.Holds E.I) {v x : SV} {u : Value} (h : sure C v = .ok x) (hd : Den E ρ v u) : Den E ρ x u := by
  unfold sure at h
  split at h
  · simp only [R.bind_ok] at h
    obtain ⟨r, hr, h⟩ := h
    cases h
    have := cmpI_ok hA hr
    simp only [cmpD, IE.den] at this
    rw [← this]; exact hd
  · split at h
    · simp only [R.bind_ok] at h
      obtain ⟨l', hl, h⟩ := h
      cases h
      obtain ⟨a, ha, rfl⟩ := hd
      exact ⟨a, sureL_ok hA hl ha, rfl⟩
    · cases h; exact hd
  · cases h; exact hd
noncomputable def evLoad (C : Ctx) (t : TypeId) (v : SV) (H : SH) : R SV :=
  match v with
  | .ptr s off => (ofOpt (H.get s) "load: no such block").bind fun b => match b with
    | .cells l _ => (loadL C t l off).bind (sure C)
    | .ro l => loadL C t l off
    | .win _ l => (loadL C t l off).bind (sure C)
    | .bld _ _ v => (C.agg t).bind fun g => if g = false ∧ off = 1 then .ok v else .no "load: a builder"
    | _ => .no "load: no cells"
  | .elt l off => loadE C t l off
  | .belt s i l off => (ofOpt (H.get s) "load: no such block").bind fun b => match b with
    | .abs j _ => if i = j then loadE C t l off else .no "load: another thing"
    | _ => .no "load: no thing"
  | _ => .no "load"
theorem evLoad_mono {t : TypeId} {v x : SV} {H H' : SH} (h : evLoad C t v H = .ok x) (hm : ∀ s b, H.get s = some b → H'.get s = some b) : evLoad C t v H' = .ok x := by
  unfold evLoad at *
  split at h
  · simp only [R.bind_ok, ofOpt_ok] at h ⊢
    obtain ⟨b, hb, h⟩ := h
    exact ⟨b, hm _ _ hb, h⟩
  · exact h
  · simp only [R.bind_ok, ofOpt_ok] at h ⊢
    obtain ⟨b, hb, h⟩ := h
    exact ⟨b, hm _ _ hb, h⟩
  · cases h
theorem evLoad_ok (hA : C.A.Holds E.I) (r : HRel E ρ H w) {t : TypeId} {v x : SV} {a : Value} (hv : Den E ρ v a) (h : evLoad C t v H = .ok x) : ∃ u, (Instr.loadAt t a).run C.P w = .ok u w ∧ Den E ρ x u := by
  unfold evLoad at h
  split at h
  · rename_i s off
    simp only [R.bind_ok, ofOpt_ok] at h
    obtain ⟨b, hb, h⟩ := h
    obtain ⟨p, hp, e1⟩ := hv
    obtain ⟨q, hq, hbr⟩ := r.blk _ _ hb
    rw [hp] at hq; cases hq
    split at h
    · rename_i l ext
      simp only [R.bind_ok] at h
      obtain ⟨x0, h, hs⟩ := h
      obtain ⟨c, el, us, h1, h2, h3, _⟩ := hbr
      obtain ⟨u, k1, k2⟩ := loadL_ok (w := w) (b := p.b) (o := p.o) h2 (fun i u hi => by rw [cell_at h1]; exact h3 i u hi) h
      exact ⟨u, by simp [Instr.loadAt, e1, Instr.sureAddr, k1], sure_ok hA hs k2⟩
    · rename_i l
      obtain ⟨h0, us, el, fz, h1, h2⟩ := hbr
      obtain ⟨u, k1, k2⟩ := loadL_ok (w := w) (b := p.b) (o := p.o) h2 (fun i u hi => by rw [cell_at h1, h0]; simpa using hi) h
      exact ⟨u, by simp [Instr.loadAt, e1, Instr.sureAddr, k1], k2⟩
    · rename_i wi l
      simp only [R.bind_ok] at h
      obtain ⟨x0, h, hs⟩ := h
      obtain ⟨c, us, h1, h2, h3, h4⟩ := hbr
      have hl := h2.length
      obtain ⟨u, k1, k2⟩ := loadL_ok (w := w) (b := p.b) (o := p.o) h2 (fun i u hi => by
        rw [cell_at h1, ← Array.getElem?_toList, h4]
        have hlt := (List.getElem?_eq_some_iff.1 hi).1
        have hp : ((E.C wi).1.toList.take p.o).length = p.o := by simp; omega
        rw [List.getElem?_append_left (by simp only [List.length_append, hp]; omega), List.getElem?_append_right (by omega), hp]
        rw [Nat.add_sub_cancel_left]; exact hi) h
      exact ⟨u, by simp [Instr.loadAt, e1, Instr.sureAddr, k1], sure_ok hA hs k2⟩
    · obtain ⟨h0, u, h1, _, h3⟩ := hbr
      simp only [R.bind_ok] at h
      obtain ⟨g, hg, h⟩ := h
      split at h
      · rename_i hc
        obtain ⟨rfl, rfl⟩ := hc
        cases h
        refine ⟨u, ?_, h1⟩
        have hc : w.cell? ⟨p.b, p.o + 1, none⟩ = some u := by rw [cell_at h3, h0]; rfl
        simp only [Instr.loadAt, e1, Instr.sureAddr, Sem.run_bind, loadVar, agg_ok w hg, Result.andThen_ok, Bool.false_eq_true, if_false, Sem.run_pure, run_load, hc]
      · cases h
    · cases h
  · rename_i l off
    obtain ⟨b, o, e1, hk⟩ := hv
    obtain ⟨u, k1, k2⟩ := loadE_ok (ρ := ρ) (w := w) hA (fun j e hj => hk w r.kept j e hj) h
    exact ⟨u, by simp [Instr.loadAt, e1, Instr.sureAddr, k1], k2⟩
  · rename_i s i l off
    simp only [R.bind_ok, ofOpt_ok] at h
    obtain ⟨b, hb, h⟩ := h
    obtain ⟨p, bb, o, hp, e1, hk⟩ := hv
    obtain ⟨q, hq, hbr⟩ := r.blk _ _ hb
    rw [hp] at hq; cases hq
    split at h
    · split at h
      · rename_i j wr hij
        subst hij
        obtain ⟨u, k1, k2⟩ := loadE_ok (ρ := ρ) (w := w) hA (fun j e hj => hk w hbr j e hj) h
        exact ⟨u, by simp [Instr.loadAt, e1, Instr.sureAddr, k1], k2⟩
      · cases h
    · cases h
  · cases h
/-! ### Store -/
theorem storeCells_ok {P : Program} : ∀ (vs : List Value) (i : Nat) (w : World) (b o : Nat) (c : Array Value) (el : TypeId), (∀ v ∈ vs, v.oneCell' = true) → w.heap[b]? = some (.cells c el (0, 0)) → o + i + vs.length ≤ c.size →
    ∃ w' c', (storeCells ⟨b, o, none⟩ vs i).run P w = .ok () w' ∧ WOnly b w w' ∧ w'.heap[b]? = some (.cells c' el (0, 0)) ∧ c'.toList = c.toList.take (o + i) ++ vs ++ c.toList.drop (o + i + vs.length) ∧ c'.size = c.size
  | [], i, w, b, o, c, el, _, h, _ => ⟨w, c, by simp [storeCells], .refl _ _, h, by simp, rfl⟩
  | v :: vs, i, w, b, o, c, el, hv, h, hs => by
    simp only [List.length_cons] at hs
    have h1 : (store ((⟨b, o, none⟩ : Addr).add i) v).run P w = .ok () (w.setCell ⟨b, o + i, none⟩ v) := by
      rw [add_plain, run_store _ _ _ _ _ (hv v (by simp)), cell_at h, not_frozen h]
      have : o + i < c.size := by omega
      simp [this]
    have h2 : (w.setCell ⟨b, o + i, none⟩ v).heap[b]? = some (.cells (c.setIfInBounds (o + i) v) el (0, 0)) := by
      simp [World.setCell, Array.getElem?_modify, h]
    obtain ⟨w', c', g1, g2, g3, g4, g5⟩ := storeCells_ok vs (i + 1) (w.setCell ⟨b, o + i, none⟩ v) b o _ el (fun x hx => hv x (by simp [hx])) h2 (by simp; omega)
    refine ⟨w', c', ?_, (WOnly.setCell w ⟨b, o + i, none⟩ v).trans g2, g3, ?_, by simpa using g5⟩
    · rw [storeCells, Sem.run_bind, h1]; exact g1
    · rw [g4]
      have hl : o + i < c.toList.length := by simp; omega
      have e1 : (c.toList.set (o + i) v).take (o + (i + 1)) = c.toList.take (o + i) ++ [v] := by
        rw [show o + (i + 1) = o + i + 1 by omega, List.take_succ_eq_append_getElem (by simpa using hl)]
        simp [List.take_set_of_le]
      have e2 : (c.toList.set (o + i) v).drop (o + (i + 1) + vs.length) = c.toList.drop (o + i + (vs.length + 1)) := by
        rw [List.drop_set_of_lt (by omega)]
        congr 1; omega
      simp only [Array.toList_setIfInBounds, List.length_cons, e1, e2]
      simp
/-- Cells of a block that has a name are written. -/
theorem write_cells (r : StR E ρ H n w) {P : Program} {s k : Nat} {l nw : List SV} {ext : Option Nat} {p : Place} {vs : List Value} (hs : H.get s = some (.cells l ext)) (hp : ρ s = some p) (hn : DenL E ρ nw vs)
    (ho : ∀ v ∈ vs, v.oneCell' = true) (hk : k ≤ l.length) (hke : k + nw.length ≤ p.e) :
    ∃ w', (storeCells ⟨p.b, p.o + k, none⟩ vs 0).run P w = .ok () w' ∧ Stp E ρ H n w ρ (H.set s (.cells (l.take k ++ nw ++ l.drop (k + nw.length)) ext)) n w' := by
  obtain ⟨q, hq, c, el, us, h1, h2, h3, h4, h5, h6⟩ := r.rel.blk _ _ hs
  rw [hp] at hq; cases hq
  have hl := h2.length
  have hnl := hn.length
  obtain ⟨w', c', g1, g2, g3, g4, g5⟩ := storeCells_ok (P := P) vs 0 w p.b (p.o + k) c el ho h1 (by omega)
  refine ⟨w', g1, Stp.write r hs hp g2 ⟨c', el, us.take k ++ vs ++ us.drop (k + nw.length), g3, (h2.take.append hn).append h2.drop, ?_, ?_, by omega, h6⟩⟩
  · intro i u hi
    rw [← Array.getElem?_toList, g4]
    simp only [Nat.add_zero]
    have hcl : c.toList.length = c.size := by simp
    by_cases e1 : i < k
    · rw [List.getElem?_append_left (by simp; omega), List.getElem?_append_left (by simp; omega), List.getElem?_take, if_pos e1] at hi
      rw [List.getElem?_append_left (by simp; omega), List.getElem?_append_left (by simp; omega), List.getElem?_take, if_pos (by omega)]
      simpa using h3 _ _ hi
    · by_cases e2 : i < k + nw.length
      · rw [List.getElem?_append_left (by simp; omega), List.getElem?_append_right (by simp; omega)] at hi
        rw [List.getElem?_append_left (by simp; omega), List.getElem?_append_right (by simp; omega)]
        rw [← hi]
        congr 1
        simp; omega
      · rw [List.getElem?_append_right (by simp; omega), List.getElem?_drop] at hi
        rw [List.getElem?_append_right (by simp; omega), List.getElem?_drop]
        have e3 : k + nw.length + (i - (us.take k ++ vs).length) = i := by simp; omega
        rw [e3] at hi
        have e4 : p.o + k + vs.length + (p.o + i - (c.toList.take (p.o + k) ++ vs).length) = p.o + i := by simp; omega
        rw [e4]
        simpa using h3 _ _ hi
  · simp; omega
noncomputable def evStore (C : Ctx) (t : TypeId) (a v : SV) (H : SH) : R SH :=
  match a with
  | .ptr s off => (ofOpt (H.get s) "store: no such block").bind fun b => match b with
    | .cells l ext => (C.size t).bind fun m => if v.isTup = false ∧ v.cells.length = m ∧ v.cells.all SV.one = true ∧ off + m ≤ l.length then
        .ok (H.set s (.cells (l.take off ++ v.cells ++ l.drop (off + v.cells.length)) ext)) else .no "store: cells"
    | .bld T a _ => (C.size t).bind fun m => if (v.isTup = false ∧ v.one = true ∧ m = 1) ∧ off = 1 then .ok (H.set s (.bld T a v)) else .no "store: a builder"
    | _ => .no "store: no cells"
  | _ => .no "store"
theorem DenL.one_all : ∀ {l : List SV} {us : List Value}, DenL E ρ l us → l.all SV.one = true → ∀ u ∈ us, u.oneCell' = true
  | [], us, h, _, u, hu => by cases h; cases hu
  | v :: l, us, h, ho, u, hu => by
    obtain ⟨x, t, h1, h2, rfl⟩ := h
    simp only [List.all_cons, Bool.and_eq_true] at ho
    rcases List.mem_cons.1 hu with rfl | hu
    · exact h1.one ho.1
    · exact DenL.one_all h2 ho.2 u hu
theorem evStore_ok (r : StR E ρ H n w) {t : TypeId} {a v : SV} {x y : Value} {H' : SH} (ha : Den E ρ a x) (hv : Den E ρ v y) (h : evStore C t a v H = .ok H') :
    ∃ w', (Instr.storeAt t x y).run C.P w = .ok () w' ∧ Stp E ρ H n w ρ H' n w' := by
  unfold evStore at h
  split at h
  · rename_i s off
    simp only [R.bind_ok, ofOpt_ok] at h
    obtain ⟨b, hb, h⟩ := h
    split at h
    · rename_i l ext
      simp only [R.bind_ok] at h
      obtain ⟨m, hm, h⟩ := h
      split at h
      · rename_i hc
        obtain ⟨c1, c2, c3, c4⟩ := hc
        cases h
        obtain ⟨p, hp, e1⟩ := ha
        have hcells := hv.cells (SV.not_tup c1) (SV.not_any c1)
        obtain ⟨q, hq, cc, el, us, g1, g2, g3, g4, g5, g6⟩ := r.rel.blk _ _ hb
        rw [hp] at hq; cases hq
        have hk1 : off ≤ l.length := by omega
        have hk2 : off + v.cells.length ≤ p.e := by omega
        obtain ⟨w', k1, k2⟩ := write_cells (P := C.P) r hb hp hcells (hcells.one_all c3) hk1 hk2
        refine ⟨w', ?_, k2⟩
        have hsz : y.cells.size = m := by have := hcells.length; simpa [c2] using this
        simp [Instr.storeAt, e1, Instr.sureAddr, Sem.run_bind, storeVar, size_ok w hm, hsz, k1]
      · cases h
    · rename_i T a' v'
      simp only [R.bind_ok] at h
      obtain ⟨m, hm, h⟩ := h
      split at h
      · rename_i hc
        obtain ⟨⟨c1, c2, rfl⟩, rfl⟩ := hc
        cases h
        obtain ⟨p, hp, e1⟩ := ha
        obtain ⟨q, hq, h0, u, h1, h2, h3⟩ := r.rel.blk _ _ hb
        rw [hp] at hq; cases hq
        have ho := hv.one c2
        have hcy : y.cells = #[y] := cells_one ho
        have hc : w.cell? ⟨p.b, p.o + 1, none⟩ = some u := by rw [cell_at h3, h0]; rfl
        have hst : (store ⟨p.b, p.o + 1, none⟩ y).run C.P w = .ok () (w.setCell ⟨p.b, p.o + 1, none⟩ y) := by
          rw [run_store _ _ _ _ _ ho, hc, not_frozen h3]; simp
        refine ⟨w.setCell ⟨p.b, p.o + 1, none⟩ y, ?_, Stp.write r hb hp (WOnly.setCell w ⟨p.b, p.o + 1, none⟩ y) ⟨h0, y, hv, c2, ?_⟩⟩
        · simp [Instr.storeAt, e1, Instr.sureAddr, Sem.run_bind, storeVar, size_ok w hm, hcy, storeCells, add_plain, hst]
        · simp [World.setCell, Array.getElem?_modify, h3, h0]
      · cases h
    · cases h
  · cases h
end
end Go.Proofs.YtfiangiajhdhcaaDoor
