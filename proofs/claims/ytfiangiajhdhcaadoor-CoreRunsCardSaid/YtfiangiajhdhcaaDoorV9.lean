/- The reckoner: a symbolic evaluator of a program, proved sound; one of its texts. No condition. -/
import Derived.Test.YtfiangiajhdhcaaDoorV8
namespace Go.Proofs.YtfiangiajhdhcaaDoor
open Go.RowKit
set_option linter.unusedVariables false
set_option maxRecDepth 100000

/-! ### append, clear -/
noncomputable def srcCells (H : SH) (z : Nat) (x : SV) : R (List SV × Nat) :=
  match x with
  | .nslice => .ok ([], 0)
  | .slice s off len _ sz => if len = 0 then .ok ([], 0) else if sz ≠ z then .no "append: size" else (ofOpt (H.get s) "append: source").bind fun b => match b with
    | .cells l _ => if off + len * z ≤ l.length then .ok ((l.drop off).take (len * z), len) else .no "append: source cells"
    | _ => .no "append: source"
  | .str s => if z = 1 then .ok (s.map fun (b : Nat) => SV.int .u8 (.lit b), s.length) else .no "append: string"
  | _ => .no "append: source"
noncomputable def evApp (C : Ctx) (ts : Array TypeId) (s x : SV) (H : SH) (n : Nat) : R (SV × SH × Nat) :=
  (ofOpt ts[0]? "append").bind fun sT => (C.under sT).bind fun d => match d with
  | .slice el => (C.info el).bind fun i => (C.zero el).bind fun zc =>
    (match ts[1]? with | some xT => (C.under xT).bind fun d => (match d with | .slice _ => .ok () | .string => .ok () | _ => .no "append: zeros") | none => .ok () : R Unit).bind fun _ =>
    (srcCells H i.size x).bind fun (nw, m) => if i.size = 0 ∨ i.bytes = 0 ∨ zc.length ≠ i.size then .no "append: size" else match s with
    | .nslice => if m = 0 then .ok (.nslice, H, n) else if (2 * m + 1000) * i.bytes ≤ 2 ^ 48 then .ok (.slice n 0 m none i.size, H.set n (.cells nw none), n + 1) else .no "append: too much"
    | .slice s0 off len cap sz => if sz ≠ i.size then .no "append: sizes" else if m = 0 then .ok (.slice s0 off len cap sz, H, n) else (ofOpt (H.get s0) "append: no such block").bind fun b => match b with
      | .cells l ext => if (2 * (len + m) + 1000) * i.bytes ≤ 2 ^ 48 ∧ off + len * i.size ≤ l.length ∧ nw.all SV.one = true then
          if len + m ≤ cap.getD ((l.length - off) / i.size) then
            if off + len * i.size + nw.length ≤ l.length then .ok (.slice s0 off (len + m) cap sz, H.set s0 (.cells (l.take (off + len * i.size) ++ nw ++ l.drop (off + len * i.size + nw.length)) ext), n) else .no "append: room"
          else .ok (.slice n 0 (len + m) none sz, (match cap with | some _ => H | none => H.del s0).set n (.cells ((l.drop off).take (len * i.size) ++ nw) none), n + 1)
        else .no "append: cells"
      | _ => .no "append: no cells"
    | _ => .no "append: onto"
  | _ => .no "append: type"
section
variable {C : Ctx} {E : Val} {ρ : Rho} {H : SH} {n : Nat} {w : World}
theorem srcCells_ok (r : HRel E ρ H w) {z : Nat} {x : SV} {a : Value} {nw : List SV} {m : Nat} (hx : Den E ρ x a) (h : srcCells H z x = .ok (nw, m)) :
    (Builtin.lenOf a).run C.P w = .ok m w ∧ nw.length = m * z ∧ ∃ us : Array Value, (Builtin.firstCells z m a).run C.P w = .ok us w ∧ DenL E ρ nw us.toList := by
  unfold srcCells at h
  split at h
  · cases h; cases hx
    exact ⟨by simp [Builtin.lenOf], by simp, #[], by simp [Builtin.firstCells], rfl⟩
  · rename_i s off len cap sz
    split at h
    · rename_i h0
      cases h
      subst h0
      obtain ⟨p, hp, hh⟩ := hx
      rcases hh with ⟨rfl, _⟩ | ⟨_, _, ⟨q, rfl⟩, _⟩
      · exact ⟨by simp [Builtin.lenOf], by simp, #[], by simp [Builtin.firstCells, loadCells, loadCellsFrom], rfl⟩
      · exact ⟨by simp [Builtin.lenOf], by simp, #[], by simp [Builtin.firstCells, loadCells, loadCellsFrom], rfl⟩
    · rename_i h0
      split at h
      · cases h
      · rename_i hz
        simp only [R.bind_ok, ofOpt_ok] at h
        obtain ⟨b, hb, h⟩ := h
        split at h
        · rename_i l ext
          split at h
          · rename_i hle
            cases h
            obtain ⟨p, hp, hh⟩ := hx
            obtain ⟨q, hq, c, el, us, h1, h2, h3, _⟩ := r.blk _ _ hb
            rw [hp] at hq; cases hq
            rcases hh with ⟨rfl, _⟩ | ⟨e, _⟩
            · have hl := h2.length
              refine ⟨by simp [Builtin.lenOf], by simp; omega, ((us.drop off).take (m * z)).toArray, ?_, by simpa using (h2.drop).take⟩
              have key := run_loadCells_list (P := C.P) w ⟨p.b, p.o + off, none⟩ ((us.drop off).take (m * z)) (fun j y hj => by
                rw [add_plain, cell_at h1]
                rw [List.getElem?_take] at hj
                split at hj
                · rw [List.getElem?_drop] at hj
                  have := h3 _ _ hj
                  rwa [← Nat.add_assoc] at this
                · cases hj)
              have hlen : ((us.drop off).take (m * z)).length = m * z := by simp; omega
              rw [hlen] at key
              exact key
            · exact absurd e h0
          · cases h
        · cases h
  · rename_i s
    split at h
    · rename_i hz
      cases h
      obtain ⟨hs, rfl⟩ := hx
      refine ⟨by simp [Builtin.lenOf, bytesOf_size], by simp [hz], _, by simp only [Builtin.firstCells]; rfl, ?_⟩
      have : (((bytesOf s).extract 0 s.length).data.map fun b => Value.int .u8 b.toNat).toList = s.map fun (b : Nat) => Value.int .u8 b := by
        have e1 : ((bytesOf s).extract 0 s.length).data.toList = s.map UInt8.ofNat := by simp [bytesOf, List.take_of_length_le]
        rw [Array.toList_map, e1, List.map_map]
        apply List.map_congr_left
        intro b hb
        have := List.all_eq_true.1 hs b hb
        simp only [decide_eq_true_eq] at this
        simp; omega
      rw [this]
      clear hs this
      induction s with
      | nil => rfl
      | cons b s ih => exact ⟨_, _, rfl, ih, rfl⟩
    · cases h
  · cases h
theorem growBy_le (need : Nat) : ∀ (k c : Nat), c < need → Builtin.growBy need k c ≤ 2 * need + 200
  | 0, c, h => by simp [Builtin.growBy]; omega
  | k + 1, c, h => by
    simp only [Builtin.growBy]
    rw [if_neg (by omega)]
    by_cases e : c + (c + 768) / 4 < need
    · exact growBy_le need k _ e
    · cases k with
      | zero => simp [Builtin.growBy]; omega
      | succ k => simp only [Builtin.growBy]; rw [if_pos (by omega)]; omega
theorem nextcap_le {need c : Nat} (h : c < need) : Builtin.nextslicecap need c ≤ 2 * need + 1000 := by
  unfold Builtin.nextslicecap
  split
  · omega
  · split
    · omega
    · have := growBy_le need 4 c h; omega
theorem keep_drew (h : E.K w) : E.K w.drew := E.Kloc _ _ h (fun _ _ => rfl)
theorem BRel.drew {p : Place} {b : SBlk} (h : BRel E ρ w p b) : BRel E ρ w.drew p b := h.mono (.refl _) (fun _ _ => rfl)
theorem HRel.drew (r : HRel E ρ H w) : HRel E ρ H w.drew := ⟨fun s b hb => let ⟨p, hp, k⟩ := r.blk s b hb; ⟨p, hp, k.drew⟩, r.inj, keep_drew r.kept, r.free⟩
theorem StR.drew (r : StR E ρ H n w) : StR E ρ H n w.drew := ⟨r.rel.drew, r.fresh⟩
theorem Stp.drew {ρ' : Rho} {H' : SH} {n' : Nat} {w' : World} (h : Stp E ρ H n w.drew ρ' H' n' w') : Stp E ρ H n w ρ' H' n' w' :=
  ⟨h.ext, h.le, h.fresh, h.rel, ⟨h.fr.os, h.fr.tape, h.fr.output, h.fr.size, h.fr.block⟩, h.cl, h.clw⟩
theorem Stp.drew' {ρ' : Rho} {H' : SH} {n' : Nat} {w' : World} (h : Stp E ρ H n w ρ' H' n' w') : Stp E ρ H n w ρ' H' n' w'.drew :=
  ⟨h.ext, h.le, h.fresh, h.rel.drew, ⟨h.fr.os, h.fr.tape, h.fr.output, h.fr.size, h.fr.block⟩, h.cl, h.clw⟩
/-- Some names are forgotten. -/
theorem Stp.less {ρ' : Rho} {H' H'' : SH} {n' : Nat} {w' : World} (h : Stp E ρ H n w ρ' H' n' w') (hs : ∀ t c, H''.get t = some c → H'.get t = some c) : Stp E ρ H n w ρ' H'' n' w' :=
  ⟨h.ext, h.le, h.fresh, ⟨fun t c ht => h.rel.blk t c (hs t c ht), fun t1 t2 b1 b2 p1 p2 k h1 h2 => h.rel.inj t1 t2 b1 b2 p1 p2 k (hs _ _ h1) (hs _ _ h2), h.rel.kept, fun k hk ⟨t, c, p, ht, hw, hp, e⟩ => h.rel.free k hk ⟨t, c, p, hs _ _ ht, hw, hp, e⟩⟩, h.fr,
    fun k ⟨t, c, p, ht, hp, e⟩ => h.cl k ⟨t, c, p, hs _ _ ht, hp, e⟩, fun k ⟨t, c, p, ht, hw, hp, e⟩ => h.clw k ⟨t, c, p, hs _ _ ht, hw, hp, e⟩⟩
/-- A block that has a name is given a new one. -/
theorem Stp.rename {w' : World} (r : StR E ρ H n w) {s : Nat} {b b' : SBlk} {p q : Place} (hs : H.get s = some b) (hp : ρ s = some p) (hq : q.b = p.b) (ho : WOnly p.b w w') (hb : BRel E (ρ.upd n q) w' q b') (hrw : b.rw = true := by rfl) (hna' : b'.isAbs = false := by rfl) (hna : b.isAbs = false := by rfl) :
    Stp E ρ H n w (ρ.upd n q) ((H.del s).set n b') (n + 1) w' := by
  have hle : ρ.le (ρ.upd n q) := Rho.le_upd (r.fresh n (Nat.le_refl _))
  have key : ∀ k, p.b = k → foot E b p k := fun k e => e ▸ foot_self hna
  have key' : ∀ k, foot E b' q k → foot E b p k := fun k hk => key k (hq ▸ foot_one hna' hk)
  have old : ∀ t c, t ≠ n → ((H.del s).set n b').get t = some c → t ≠ s ∧ H.get t = some c := by
    intro t c ht h
    rw [Tr.get_set, if_neg ht, Tr.get_del] at h
    split at h
    · cases h
    · rename_i e; exact ⟨e, h⟩
  have new : ∀ c, ((H.del s).set n b').get n = some c → c = b' := fun c h => by rw [Tr.get_set, if_pos rfl] at h; cases h; rfl
  have fr : FrS (fpw E ρ H) w w' := ⟨ho.os, ho.tape, ho.output, by rw [ho.size]; exact Nat.le_refl _, fun k hk hn => ho.block k (fun e => hn ⟨s, b, p, hs, hrw, hp, key k e.symm⟩)⟩
  have clw : ∀ k, fpw E (ρ.upd n q) ((H.del s).set n b') k → fpw E ρ H k ∨ w.heap.size ≤ k := by
    rintro k ⟨t, c, q', ht, hw, hq', e2⟩
    by_cases e1 : t = n
    · subst e1
      rw [Rho.upd_same] at hq'; cases hq'
      obtain rfl := new _ ht
      exact .inl ⟨s, b, p, hs, hrw, hp, key' k e2⟩
    · obtain ⟨e5, ht⟩ := old t c e1 ht
      obtain ⟨q'', hq'', hc⟩ := r.rel.blk t c ht
      rw [hle _ _ hq''] at hq'; cases hq'
      exact .inl ⟨t, c, _, ht, hw, hq'', e2⟩
  refine ⟨fun t ht => Rho.upd_other ρ _ (by omega), by omega, fun t ht => (Rho.upd_other ρ _ (by omega)).trans (r.fresh t (by omega)), ⟨?_, ?_, r.rel.keep fr, r.rel.frees clw⟩, fr, ?_, clw⟩
  · intro t c ht
    by_cases e1 : t = n
    · subst e1
      rw [Tr.get_set, if_pos rfl] at ht
      cases ht
      exact ⟨_, Rho.upd_same _ _ _, hb⟩
    · obtain ⟨e2, ht⟩ := old t c e1 ht
      obtain ⟨q', hq', hc⟩ := r.rel.blk t c ht
      exact ⟨q', hle _ _ hq', hc.mono hle (fun k hk => ho.block k (fun e3 => e2 (r.rel.inj t s c b q' p k ht hs hq' hp hk (key k e3.symm))))⟩
  · intro t1 t2 b1 b2 p1 p2 k h1 h2 q1 q2 f1 f2
    by_cases e3 : t1 = n
    · subst e3
      rw [Rho.upd_same] at q1; cases q1
      obtain rfl := new _ h1
      by_cases e4 : t2 = t1
      · exact e4.symm
      · obtain ⟨e5, h2⟩ := old t2 b2 e4 h2
        obtain ⟨q', hq', hc⟩ := r.rel.blk t2 b2 h2
        rw [hle _ _ hq'] at q2; cases q2
        exact absurd (r.rel.inj t2 s b2 b _ p k h2 hs hq' hp f2 (key' k f1)) e5
    · obtain ⟨e6, h1'⟩ := old t1 b1 e3 h1
      obtain ⟨q', hq', hc⟩ := r.rel.blk t1 b1 h1'
      rw [hle _ _ hq'] at q1; cases q1
      by_cases e4 : t2 = n
      · subst e4
        rw [Rho.upd_same] at q2; cases q2
        obtain rfl := new _ h2
        exact absurd (r.rel.inj t1 s b1 b _ p k h1' hs hq' hp f1 (key' k f2)) e6
      · obtain ⟨e5, h2⟩ := old t2 b2 e4 h2
        obtain ⟨q'', hq'', hc'⟩ := r.rel.blk t2 b2 h2
        rw [hle _ _ hq''] at q2; cases q2
        exact r.rel.inj t1 t2 b1 b2 _ _ k h1' h2 hq' hq'' f1 f2
  · rintro k ⟨t, c, q', ht, hq', e2⟩
    by_cases e1 : t = n
    · subst e1
      rw [Rho.upd_same] at hq'; cases hq'
      obtain rfl := new _ ht
      exact .inl ⟨s, b, p, hs, hp, key' k e2⟩
    · obtain ⟨e5, ht⟩ := old t c e1 ht
      obtain ⟨q'', hq'', hc⟩ := r.rel.blk t c ht
      rw [hle _ _ hq''] at hq'; cases hq'
      exact .inl ⟨t, c, _, ht, hq'', e2⟩
end
end Go.Proofs.YtfiangiajhdhcaaDoor
