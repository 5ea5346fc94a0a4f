/- The reckoner: a symbolic evaluator of a program, proved sound; one of its texts. No condition. -/
import Derived.Test.YtfiangiajhdhcaaDoorV10
import Derived.Laws.BytesString
namespace Go.Proofs.YtfiangiajhdhcaaDoor
open Go.RowKit
set_option linter.unusedVariables false
set_option maxRecDepth 100000

section
variable {C : Ctx} {E : Val} {ρ : Rho} {H : SH} {n : Nat} {w : World}
/-- A row that an append has made: what is known of it lies at its beginning. -/
theorem BRel.made {ρ : Rho} {w : World} {od nw rest : Array Value} {el : TypeId} {l : List SV} {k : Nat} (h : DenL E ρ l (od.toList ++ nw.toList)) (hk : (od ++ nw ++ rest).size = k) :
    BRel E ρ (w.alloc (.cells (od ++ nw ++ rest) el (0, 0))) ⟨w.heap.size, 0, k, undef⟩ (.cells l none) := by
  have hl := h.length
  refine ⟨_, el, _, heap_push w _, h, fun i u hi => ?_, ?_, by show 0 + k ≤ (od ++ nw ++ rest).size; omega, fun m hm => by cases hm⟩
  · rw [← Array.getElem?_toList]
    simp only [Array.toList_append, Nat.zero_add]
    have hlt := (List.getElem?_eq_some_iff.1 hi).1
    rw [List.getElem?_append_left hlt]
    exact hi
  · rw [← hl, ← hk]; simp
theorem evApp_ok (r : StR E ρ H n w) {ts : Array TypeId} {ty : TypeId} {as : Array Value} {s x v : SV} {a b : Value} {H' : SH} {n' : Nat} (ha : as[0]? = some a) (hb : as[1]? = some b) (hs : Den E ρ s a) (hx : Den E ρ x b)
    (h : evApp C ts s x H n = .ok (v, H', n')) : ∃ u w' ρ', (Builtin.append_ ts ty as).run C.P w = .ok u w' ∧ Stp E ρ H n w ρ' H' n' w' ∧ Den E ρ' v u := by
  simp only [evApp, R.bind_ok, ofOpt_ok] at h
  obtain ⟨t, ht, d, hd, h⟩ := h
  have hu := ofOpt_ok.1 hd
  split at h
  case h_2 => cases h
  rename_i el
  simp only [R.bind_ok] at h
  obtain ⟨i, hi, zc, hzc, un, hun, ⟨nw, m⟩, hsrc, h⟩ := h
  have hnz : NoZeros C.P ts := by
    split at hun
    · rename_i xT hxT
      simp only [R.bind_ok] at hun
      obtain ⟨d2, hd2, hun⟩ := hun
      have := ofOpt_ok.1 hd2
      split at hun
      · exact .inr ⟨xT, _, hxT, this, .inl ⟨_, rfl⟩⟩
      · exact .inr ⟨xT, _, hxT, this, .inr rfl⟩
      · cases hun
    · rename_i hxT; exact .inl hxT
  have hi' := info_ok hi
  obtain ⟨z, hz1, hz2⟩ : ∃ z, i.zero = some z ∧ DenL E ρ zc z.cells.toList := by
    simp only [Ctx.zero, R.bind_ok, ofOpt_ok] at hzc
    obtain ⟨i2, hi2, z, hz, hl⟩ := hzc
    rw [info_ok hi2] at hi'
    cases hi'
    exact ⟨z, hz, mapR_ofCell_ok hl⟩
  have hzl : z.cells.size = zc.length := by have := hz2.length; simpa using this
  obtain ⟨hm, hlen, us, hf, hdn⟩ := srcCells_ok (C := C) r.rel hx hsrc
  obtain ⟨_, _, us2, hf2, hdn2⟩ := srcCells_ok (C := C) (w := w.drew) r.drew.rel hx hsrc
  dsimp only at h
  split at h
  · cases h
  rename_i hsz
  have hsz1 : ¬ i.size = 0 := fun e => hsz (.inl e)
  have hsz2 : i.bytes ≠ 0 := fun e => hsz (.inr (.inl e))
  have hsz3 : zc.length = i.size := by
    by_cases e : zc.length = i.size
    · exact e
    · exact absurd (.inr (.inr e)) hsz
  split at h
  · -- onto nil
    obtain rfl : a = .slice none 0 0 := hs
    split at h
    · rename_i hm0
      cases h
      subst hm0
      exact ⟨_, w, ρ, run_app_in ht hnz ha hb hu hi' hm hf (by omega) (by intro a e; cases e) (fun _ => rfl), .refl r, by simp [Den]⟩
    · rename_i hm0
      split at h
      · rename_i h48
        cases h
        have hcap : ¬ Builtin.nextslicecap (0 + m) 0 * i.bytes > 2 ^ 48 := by
          have h1 := nextcap_le (need := 0 + m) (c := 0) (by omega)
          have h2 := Nat.mul_le_mul_right i.bytes h1
          have h3 : 2 * (0 + m) + 1000 = 2 * m + 1000 := by omega
          rw [h3] at h2
          omega
        obtain ⟨nc, hnc, hrun⟩ := run_app_new (w := w) (P := C.P) (ty := ty) (od := #[]) ht hnz ha hb hu hi' hz1 hm hf2 (by simp [Builtin.firstCells]) (by omega) hsz2 hcap
        have hk : (#[] ++ us2 ++ Builtin.zeroCells z.cells (nc - (0 + m))).size = nc * i.size := by
          have e1 : us2.size = m * i.size := by have := hdn2.length; simp at this; omega
          simp only [Array.size_append, size_zeroCells, e1, hzl, hsz3, Array.size_empty, Nat.zero_add]
          rw [← Nat.add_mul]; congr 1; omega
        have hle : ρ.le (ρ.upd n ⟨w.drew.heap.size, 0, nc * i.size, undef⟩) := Rho.le_upd (r.fresh n (Nat.le_refl _))
        refine ⟨_, _, ρ.upd n ⟨w.drew.heap.size, 0, nc * i.size, undef⟩, hrun, (Stp.alloc r.drew _ (BRel.made (by simpa using hdn2.mono hle) hk)).drew, ⟨_, Rho.upd_same _ _ _, .inl ⟨?_, ?_, by omega⟩⟩⟩
        · simp only [Option.getD_none, Nat.sub_zero, Nat.mul_div_cancel _ (Nat.pos_of_ne_zero hsz1), Nat.add_zero, Nat.zero_add]
          rfl
        · simp only [Option.getD_none, Nat.sub_zero, Nat.mul_div_cancel _ (Nat.pos_of_ne_zero hsz1)]
          omega
      · cases h
  · -- onto a slice
    rename_i s0 off len cap sz
    split at h
    · cases h
    rename_i hszz
    have hszz : sz = i.size := by simpa using hszz
    subst hszz
    obtain ⟨p, hp, hh⟩ := hs
    split at h
    · rename_i hm0
      cases h
      subst hm0
      rcases hh with ⟨rfl, h1, h2⟩ | ⟨rfl, rfl, ⟨q, rfl⟩, h2, h3⟩
      · have us0 : us.toList = [] := by have := hdn.length; simp [hlen] at this; simpa using this
        refine ⟨_, w, ρ, run_app_in ht hnz ha hb hu hi' hm hf (by omega) (fun a e => ?_) (fun e => by cases e), .refl r, ⟨p, hp, .inl ⟨rfl, h1, h2⟩⟩⟩
        rw [us0]; simp [storeCells]
      · have us0 : us.toList = [] := by have := hdn.length; simp [hlen] at this; simpa using this
        refine ⟨_, w, ρ, run_app_in ht hnz ha hb hu hi' hm hf (by omega) (fun a e => ?_) (fun e => by cases e), .refl r, ⟨p, hp, .inr ⟨rfl, rfl, ⟨q, rfl⟩, h2, h3⟩⟩⟩
        rw [us0]; simp [storeCells]
    · rename_i hm0
      simp only [R.bind_ok, ofOpt_ok] at h
      obtain ⟨blk, hblk, h⟩ := h
      split at h
      case h_2 => cases h
      rename_i l ext
      split at h
      case isFalse => cases h
      rename_i hc
      obtain ⟨c1, c2, c3⟩ := hc
      obtain ⟨q, hq, cc, cel, uo, g1, g2, g3, g4, g5, g6⟩ := r.rel.blk _ _ hblk
      rw [hp] at hq; cases hq
      have huo := g2.length
      have hpos : 0 < i.size := Nat.pos_of_ne_zero hsz1
      split at h
      · -- there is room
        rename_i hroom
        split at h
        case isFalse => cases h
        rename_i hfit
        cases h
        have hh1 : a = .slice (some ⟨p.b, p.o + off, none⟩) len (cap.getD ((p.e - off) / i.size)) ∧ len ≤ cap.getD ((p.e - off) / i.size) := by
          rcases hh with ⟨h1, h2, _⟩ | ⟨e1, e2, _, e3, _⟩
          · exact ⟨h1, h2⟩
          · exfalso
            subst e1 e2
            simp only [Option.getD_none] at hroom
            have := Nat.div_le_div_right (c := i.size) (show l.length - off ≤ p.e - off by omega)
            omega
        obtain ⟨rfl, hle⟩ := hh1
        have hroom2 : len + m ≤ cap.getD ((p.e - off) / i.size) := by
          cases cap with
          | none =>
            simp only [Option.getD_none] at hroom ⊢
            have := Nat.div_le_div_right (c := i.size) (show l.length - off ≤ p.e - off by omega)
            omega
          | some c => simpa using hroom
        obtain ⟨w', k1, k2⟩ := write_cells (P := C.P) r (k := off + len * i.size) hblk hp hdn (hdn.one_all c3) c2 (by omega)
        refine ⟨_, w', ρ, run_app_in ht hnz ha hb hu hi' hm hf hroom2 (fun a e => ?_) (fun e => by cases e), k2, ⟨p, hp, .inl ⟨rfl, hroom2, hpos⟩⟩⟩
        cases e
        rw [add_plain, Nat.add_assoc]; exact k1
      · -- there may be none
        rename_i hroom
        cases h
        -- the cells of the elder row
        have hod : DenL E ρ ((l.drop off).take (len * i.size)) ((uo.drop off).take (len * i.size)) := g2.drop.take
        have hodl : ((uo.drop off).take (len * i.size)).length = len * i.size := by simp; omega
        have hfirst : ∀ W : World, W.heap = w.heap → ∀ K, (Builtin.firstCells i.size len (.slice (some ⟨p.b, p.o + off, none⟩) len K)).run C.P W = .ok ((uo.drop off).take (len * i.size)).toArray W := by
          intro W hW K
          have key := run_loadCells_list (P := C.P) W ⟨p.b, p.o + off, none⟩ ((uo.drop off).take (len * i.size)) (fun j y hj => by
            rw [add_plain, cell_at (by rw [hW]; exact g1)]
            rw [List.getElem?_take] at hj
            split at hj
            · rw [List.getElem?_drop] at hj
              have := g3 _ _ hj
              rwa [← Nat.add_assoc] at this
            · cases hj)
          rw [hodl] at key
          exact key
        -- a new row
        have new : ∀ (sCap : Nat) (base : Option Addr) (od : Array Value), a = .slice base len sCap → (Builtin.firstCells i.size len (.slice base len sCap)).run C.P w.drew = .ok od w.drew →
            DenL E ρ ((l.drop off).take (len * i.size)) od.toList → ¬ len + m ≤ sCap →
            ∃ u w' ρ', (Builtin.append_ ts ty as).run C.P w = .ok u w' ∧ Stp E ρ H n w ρ' (H.set n (.cells ((l.drop off).take (len * i.size) ++ nw) none)) (n + 1) w' ∧ Den E ρ' (.slice n 0 (len + m) none i.size) u := by
          intro sCap base od e ho hod hno
          subst e
          have hcap : ¬ Builtin.nextslicecap (len + m) sCap * i.bytes > 2 ^ 48 := by
            have h1 := nextcap_le (need := len + m) (c := sCap) (by omega)
            have h2 := Nat.mul_le_mul_right i.bytes h1
            omega
          obtain ⟨nc, hnc, hrun⟩ := run_app_new (w := w) (P := C.P) (ty := ty) ht hnz ha hb hu hi' hz1 hm hf2 ho hno hsz2 hcap
          have hk : (od ++ us2 ++ Builtin.zeroCells z.cells (nc - (len + m))).size = nc * i.size := by
            have e1 : us2.size = m * i.size := by have := hdn2.length; simp at this; omega
            have e2 : od.size = len * i.size := by
              have := hod.length
              simp at this
              omega
            simp only [Array.size_append, size_zeroCells, e1, e2, hzl, hsz3]
            rw [← Nat.add_mul, ← Nat.add_mul]; congr 1; omega
          have hle : ρ.le (ρ.upd n ⟨w.drew.heap.size, 0, nc * i.size, undef⟩) := Rho.le_upd (r.fresh n (Nat.le_refl _))
          refine ⟨_, _, ρ.upd n ⟨w.drew.heap.size, 0, nc * i.size, undef⟩, hrun, (Stp.alloc r.drew _ (BRel.made ((hod.append hdn2).mono hle) hk)).drew, ⟨_, Rho.upd_same _ _ _, .inl ⟨?_, ?_, by omega⟩⟩⟩
          · simp only [Option.getD_none, Nat.sub_zero, Nat.mul_div_cancel _ hpos, Nat.add_zero]
            rfl
          · simp only [Option.getD_none, Nat.sub_zero, Nat.mul_div_cancel _ hpos]
            omega
        cases cap with
        | some c =>
          simp only [Option.getD_some] at hroom hh ⊢
          rcases hh with ⟨e1, _⟩ | ⟨_, e, _⟩
          · exact new c _ _ e1 (hfirst w.drew rfl c) (by simpa using hod) hroom
          · cases e
        | none =>
          simp only [Option.getD_none] at hroom hh ⊢
          have sub : ∀ t c, ((H.del s0).set n (.cells ((l.drop off).take (len * i.size) ++ nw) none)).get t = some c → (H.set n (.cells ((l.drop off).take (len * i.size) ++ nw) none)).get t = some c := by
            intro t c ht
            rw [Tr.get_set] at ht ⊢
            split at ht
            · rename_i e; rw [if_pos e]; exact ht
            · rename_i e
              rw [if_neg e]
              rw [Tr.get_del] at ht
              split at ht
              · cases ht
              · exact ht
          rcases hh with ⟨e1, hle1, _⟩ | ⟨rfl, _, ⟨q, e1⟩, hz0, _⟩
          · by_cases hin : len + m ≤ (p.e - off) / i.size
            · -- in place
              subst e1
              have hspace : off + (len + m) * i.size ≤ p.e := by
                have h1 := Nat.mul_le_mul_right i.size hin
                have h2 := Nat.div_mul_le_self (p.e - off) i.size
                have h3 : 0 < (len + m) * i.size := Nat.mul_pos (by omega) hpos
                omega
              have hmul : (len + m) * i.size = len * i.size + m * i.size := Nat.add_mul _ _ _
              have hnl := hdn.length
              obtain ⟨w', c', k1, k2, k3, k4, k5⟩ := storeCells_ok (P := C.P) us.toList 0 w p.b (p.o + (off + len * i.size)) cc cel (hdn.one_all c3) g1 (by omega)
              have hle : ρ.le (ρ.upd n ⟨p.b, p.o + off, p.e - off, undef⟩) := Rho.le_upd (r.fresh n (Nat.le_refl _))
              refine ⟨_, w', ρ.upd n ⟨p.b, p.o + off, p.e - off, undef⟩, run_app_in ht hnz ha hb hu hi' hm hf hin (fun a e => ?_) (fun e => by cases e), Stp.rename r hblk hp rfl k2 ?_, ⟨_, Rho.upd_same _ _ _, .inl ⟨?_, ?_, hpos⟩⟩⟩
              · cases e
                rw [add_plain, Nat.add_assoc]; exact k1
              · refine ⟨c', cel, (uo.drop off).take (len * i.size) ++ us.toList, k3, (hod.append hdn).mono hle, ?_, ?_, ?_, fun k hk => by cases hk⟩
                · intro j u hj
                  rw [← Array.getElem?_toList, k4]
                  simp only [Nat.add_zero]
                  have hcl : cc.toList.length = cc.size := by simp
                  by_cases e2 : j < len * i.size
                  · rw [List.getElem?_append_left (by omega), List.getElem?_take, if_pos e2, List.getElem?_drop] at hj
                    rw [List.getElem?_append_left (by simp; omega), List.getElem?_append_left (by simp; omega), List.getElem?_take, if_pos (by omega)]
                    have := g3 _ _ hj
                    simpa [Nat.add_assoc] using this
                  · rw [List.getElem?_append_right (by omega)] at hj
                    have hjl := (List.getElem?_eq_some_iff.1 hj).1
                    rw [List.getElem?_append_left (by simp at hjl ⊢; omega), List.getElem?_append_right (by simp; omega)]
                    rw [← hj]
                    congr 1
                    simp; omega
                · simp; omega
                · show p.o + off + (p.e - off) ≤ c'.size
                  omega
              · simp only [Option.getD_none, Nat.sub_zero, Nat.add_zero]
              · simp only [Option.getD_none, Nat.sub_zero]; exact hin
            · obtain ⟨u, w', ρ', k1, k2, k3⟩ := new _ _ _ e1 (hfirst w.drew rfl _) (by simpa using hod) hin
              exact ⟨u, w', ρ', k1, k2.less sub, k3⟩
          · have hod0 : DenL E ρ ((l.drop off).take (0 * i.size)) (#[] : Array Value).toList := by simp [DenL]
            obtain ⟨u, w', ρ', k1, k2, k3⟩ := new 0 (some q) #[] e1 (by simp [Builtin.firstCells, loadCells, loadCellsFrom]) hod0 (by omega)
            exact ⟨u, w', ρ', k1, k2.less sub, k3⟩
  · cases h
/-! ### clear, copy, a slice expression that looks at its block -/
noncomputable def evClear (C : Ctx) (ts : Array TypeId) (s : SV) (H : SH) : R SH :=
  (ofOpt ts[0]? "clear").bind fun t => (C.under t).bind fun d => match d with
  | .slice el => (match s with
    | .nslice => .ok H
    | .slice s0 off len _ sz => if len = 0 then .ok H else (C.zero el).bind fun zc => (ofOpt (H.get s0) "clear: block").bind fun b => match b with
      | .cells l ext => if (zc.length = sz ∧ 0 < sz) ∧ (fillRow zc (len * sz)).all SV.one = true ∧ off + len * sz ≤ l.length then
          .ok (H.set s0 (.cells (l.take off ++ fillRow zc (len * sz) ++ l.drop (off + (fillRow zc (len * sz)).length)) ext)) else .no "clear: cells"
      | _ => .no "clear: no cells"
    | _ => .no "clear: of what")
  | _ => .no "clear: type"
theorem evClear_ok (r : StR E ρ H n w) {ts : Array TypeId} {ty : TypeId} {as : Array Value} {s : SV} {a : Value} {H' : SH} (ha : as[0]? = some a) (hs : Den E ρ s a) (h : evClear C ts s H = .ok H') :
    ∃ w', (Builtin.clear_ ts ty as).run C.P w = .ok (.tuple #[]) w' ∧ Stp E ρ H n w ρ H' n w' := by
  simp only [evClear, R.bind_ok, ofOpt_ok] at h
  obtain ⟨t, ht, d, hd, h⟩ := h
  have hu := under_ok w hd
  split at h
  · rename_i el
    split at h
    · cases h
      have e : a = .slice none 0 0 := hs
      subst e
      exact ⟨w, by simp [Builtin.clear_, ht, ha, hu], .refl r⟩
    · rename_i s0 off len cap sz
      obtain ⟨p, hp, hx⟩ := hs
      split at h
      · rename_i h0
        subst h0
        cases h
        rcases hx with ⟨rfl, _, _⟩ | ⟨_, _, ⟨q, rfl⟩, _⟩
        · exact ⟨w, by simp [Builtin.clear_, ht, ha, hu], .refl r⟩
        · exact ⟨w, by simp [Builtin.clear_, ht, ha, hu], .refl r⟩
      · rename_i h0
        simp only [R.bind_ok, ofOpt_ok] at h
        obtain ⟨zc, hzc, b, hb, h⟩ := h
        split at h
        · rename_i l ext
          split at h
          · rename_i hc
            obtain ⟨⟨c1, c2⟩, c3, c4⟩ := hc
            cases h
            rcases hx with ⟨rfl, _, _⟩ | ⟨k, _⟩
            · obtain ⟨zv, z1, z2⟩ := zero_ok (E := E) (ρ := ρ) w hzc
              have hzl : zv.cells.size = zc.length := by have := z2.length; simpa using this
              have hf := fillRow_ok z2 (by omega) (len * sz)
              obtain ⟨q, hq, cc, el', us, g1, g2, g3, g4, g5, g6⟩ := r.rel.blk _ _ hb
              rw [hp] at hq; cases hq
              have hfl : (fillRow zc (len * sz)).length = len * sz := by simp [fillRow]
              obtain ⟨w', k1, k2⟩ := write_cells (P := C.P) r hb hp hf (hf.one_all c3) (k := off) (by omega) (by omega)
              refine ⟨w', ?_, k2⟩
              have e1 : (Builtin.zeroCells zv.cells len).toList = ((Array.range (len * sz)).map (zv.cells[· % zv.cells.size]!)).toList := by
                unfold Builtin.zeroCells
                rw [hzl, c1]
              have hm : ∃ m, len = m + 1 := ⟨len - 1, by omega⟩
              obtain ⟨m, rfl⟩ := hm
              simp only [Builtin.clear_, ht, ha, Sem.run_bind, hu, Result.andThen_ok, z1, e1, k1, Sem.run_pure]
            · exact absurd k h0
          · cases h
        · cases h
    · cases h
  · cases h
noncomputable def litBytes (A : Asm) : List SV → R (List Nat)
  | [] => .ok []
  | .int .u8 e :: l => (concI A e).bind fun b => if 0 ≤ b ∧ b < 256 then (litBytes A l).bind fun r => .ok (b.toNat :: r) else .no "bytes: range"
  | _ :: _ => .no "bytes"
theorem litBytes_ok {A : Asm} {ρ : Rho} (hA : A.Holds E.I) : ∀ {l : List SV} {us : List Value} {bs : List Nat}, DenL E ρ l us → litBytes A l = .ok bs → us = (bs.map fun (b : Nat) => (b : Int)).map (Value.int .u8) ∧ bs.all (· < 256) = true
  | [], us, bs, hd, h => by simp only [litBytes] at h; cases h; cases hd; exact ⟨rfl, rfl⟩
  | v :: l, us, bs, ⟨u, t, h1, h2, h3⟩, h => by
    subst h3
    unfold litBytes at h
    split at h
    · rename_i heq; cases heq
    · rename_i e l' heq
      cases heq
      simp only [R.bind_ok] at h
      obtain ⟨b, hb, h⟩ := h
      split at h
      · rename_i hc
        simp only [R.bind_ok] at h
        obtain ⟨r, hr, h⟩ := h
        cases h
        obtain ⟨rfl, g⟩ := litBytes_ok hA h2 hr
        have := concI_ok hA hb
        simp only [Den] at h1
        rw [this] at h1
        subst h1
        refine ⟨?_, ?_⟩
        · simp only [List.map_cons]
          rw [show ((b.toNat : Nat) : Int) = b by omega]
        · simp only [List.all_cons, g, Bool.and_true, decide_eq_true_eq]; omega
      · cases h
    · cases h
theorem foldl_bytes (bs : List Nat) : (bs.map fun (b : Nat) => (b : Int)).foldl (fun r n => r.push (UInt8.ofNat n.toNat)) ByteArray.empty = bytesOf bs := by
  have key : ∀ (bs : List Nat) (s : ByteArray), (bs.map fun (b : Nat) => (b : Int)).foldl (fun r n => r.push (UInt8.ofNat n.toNat)) s = ⟨s.data ++ (bs.map UInt8.ofNat).toArray⟩ := by
    intro bs
    induction bs with
    | nil => intro s; simp
    | cons b bs ih =>
      intro s
      simp only [List.map_cons, List.foldl_cons, ih]
      congr 1
      simp [ByteArray.push]
  rw [key]
  simp [bytesOf, ByteArray.empty, ByteArray.emptyWithCapacity]
  rfl
noncomputable def evSliceH (C : Ctx) (e : Operand → R SV) (o : Op) (H : SH) (y : Why) : R SV :=
  match o with
  | .slice t x lo hi none => (C.under t).bind fun u => (e x).bind fun v => match u, v with
    | .slice el, .slice s off len none sz => (C.size el).bind fun z => if z = sz then (ofOpt (H.get s) "slice: block").bind fun b => match b with
      | .cells l _ => (sBound C e hi len (max len ((l.length - off) / sz))).bind fun h => (sBound C e lo 0 h).bind fun k => .ok (.slice s (off + k * sz) (h - k) none sz)
      | _ => .no "slice: no cells"
      else .no "slice: size"
    | _, _ => .no y
  | .convert s d x => (C.under s).bind fun su => (C.under d).bind fun du => match su, du with
    | .slice el, .string => (C.under el).bind fun eu => match eu with
      | .int .u8 => (e x).bind fun v => match v with
        | .nslice => .ok (.str [])
        | .slice s0 off len cap sz => (srcCells H 1 (.slice s0 off len cap sz)).bind fun r => (litBytes C.A r.1).bind fun bs => .ok (.str bs)
        | _ => .no y
      | _ => .no y
    | _, _ => .no y
  | _ => .no y
theorem evSliceH_ok (hA : C.A.Holds E.I) (r : StR E ρ H n w) {e : Operand → R SV} {ε : Operand → Value} (he : ∀ x v, e x = .ok v → Den E ρ v (ε x)) {o : Oper} {v : SV} {y : Why} (h : evSliceH C e o.op H y = .ok v) :
    ∃ u, (execOp ε o).run C.P w = .ok (.value u) w ∧ Den E ρ v u := by
  unfold evSliceH at h
  split at h
  · rename_i t x lo hi ho
    unfold execOp
    simp only [ho, Option.map_none]
    simp only [R.bind_ok] at h
    obtain ⟨d, hd, y', hy, h⟩ := h
    have hu := under_ok w hd
    have hx := he _ _ hy
    split at h
    · rename_i el s off len sz
      simp only [R.bind_ok] at h
      obtain ⟨z, hz, h⟩ := h
      split at h
      · rename_i hzs
        subst hzs
        simp only [R.bind_ok, ofOpt_ok] at h
        obtain ⟨b, hb, h⟩ := h
        split at h
        · rename_i l ext
          simp only [R.bind_ok] at h
          obtain ⟨hn, hh, k, hk, h⟩ := h
          cases h
          obtain ⟨p, hp, hx⟩ := hx
          obtain ⟨q, hq, cc, el', us, g1, g2, g3, g4, g5, g6⟩ := r.rel.blk _ _ hb
          rw [hp] at hq; cases hq
          have hdiv : (l.length - off) / z ≤ (p.e - off) / z := Nat.div_le_div_right (by omega)
          rcases hx with ⟨rx, hle, hpos⟩ | ⟨rfl, _, ⟨q, rx⟩, hz0, hpos⟩
          · simp only [Option.getD_none] at rx hle
            generalize hK : (p.e - off) / z = K at *
            obtain ⟨b1, b2, b3⟩ := sliceBounds_ok (C := C) w hA he (show max len ((l.length - off) / z) ≤ K by omega) (Nat.le_max_left _ _) hh hk true
            rw [rx]
            by_cases hKl : K = k
            · subst hKl
              have b4 : hn = K := by omega
              subst b4
              refine ⟨_, by simp only [Instr.sliceAt, Sem.run_bind, hu, Result.andThen_ok, Instr.slice, b1, size_ok w hz, Sem.run_pure]; rfl, p, hp, .inr ⟨by omega, rfl, ⟨⟨p.b, p.o + off, none⟩, by simp⟩, ?_, hpos⟩⟩
              rw [← Nat.sub_sub, Nat.mul_comm hn z, Nat.sub_mul_div, hK]; omega
            · refine ⟨_, by simp only [Instr.sliceAt, Sem.run_bind, hu, Result.andThen_ok, Instr.slice, b1, size_ok w hz, Sem.run_pure]; rfl, p, hp, .inl ⟨?_, ?_, hpos⟩⟩
              · simp only [if_neg hKl, Option.map_some, add_plain, Option.getD_none]
                rw [← Nat.sub_sub, Nat.mul_comm k z, Nat.sub_mul_div, hK, Nat.add_assoc]
              · simp only [Option.getD_none]
                rw [← Nat.sub_sub, Nat.mul_comm k z, Nat.sub_mul_div, hK]; omega
          · rw [hz0] at hdiv
            obtain ⟨b1, b2, b3⟩ := sliceBounds_ok (C := C) w hA he (y := max 0 ((l.length - off) / z)) (cap := 0) (by omega) (by omega) hh hk true
            have b4 : hn = 0 := by omega
            have b5 : k = 0 := by omega
            subst b4
            subst b5
            rw [rx]
            refine ⟨.slice (some q) 0 0, ?_, p, hp, .inr ⟨rfl, rfl, ⟨q, rfl⟩, by simpa using hz0, hpos⟩⟩
            simp [Instr.sliceAt, Sem.run_bind, hu, Instr.slice, b1, size_ok w hz]
        · cases h
      · cases h
    · cases h
  · rename_i sT dT x ho
    unfold execOp
    simp only [ho]
    simp only [R.bind_ok] at h
    obtain ⟨su, hsu, du, hdu, h⟩ := h
    split at h
    · rename_i el
      simp only [R.bind_ok] at h
      obtain ⟨eu, heu, h⟩ := h
      have hu1 := under_ok w hsu
      have hu2 := under_ok w hdu
      have hu3 := under_ok w heu
      split at h
      · simp only [R.bind_ok] at h
        obtain ⟨v', hv, h⟩ := h
        have hx := he _ _ hv
        split at h
        · cases h
          have e1 : ε x = .slice none 0 0 := hx
          refine ⟨.string .empty, ?_, rfl, by simp [bytesOf, ByteArray.empty, ByteArray.emptyWithCapacity]; rfl⟩
          rw [e1]
          simp [Sem.run_bind, convert, hu1, hu2, hu3, Conv.bytesToString]
        · rename_i s0 off len cap sz
          simp only [R.bind_ok] at h
          obtain ⟨⟨nw, m⟩, hsrc, bs, hbs, h⟩ := h
          cases h
          obtain ⟨k1, k2, us, k3, k4⟩ := srcCells_ok (C := C) (w := w) r.rel hx hsrc
          obtain ⟨l1, l2⟩ := litBytes_ok hA k4 hbs
          have hval : ∃ A c, ε x = .slice (some A) len c := by
            obtain ⟨p, hp, hh⟩ := hx
            rcases hh with ⟨e, _⟩ | ⟨rfl, _, ⟨q, e⟩, _⟩
            · exact ⟨_, _, e⟩
            · exact ⟨_, _, e⟩
          obtain ⟨A, c, hval⟩ := hval
          rw [hval] at k1 k3
          have hm : len = m := by simpa [Builtin.lenOf] using k1
          subst hm
          have k5 : (loadCells A len).run C.P w = .ok ((bs.map fun (b : Nat) => (b : Int)).map (Value.int .u8)).toArray w := by
            rw [← l1]
            simpa [Builtin.firstCells] using k3
          have k6 := run_bytesToString (P := C.P) w A len c _ k5
          rw [foldl_bytes] at k6
          refine ⟨.string (bytesOf bs), ?_, l2, rfl⟩
          rw [hval]
          simp [Sem.run_bind, convert, hu1, hu2, hu3, k6]
        · cases h
      · cases h
    · cases h
  · cases h
end
end Go.Proofs.YtfiangiajhdhcaaDoor
