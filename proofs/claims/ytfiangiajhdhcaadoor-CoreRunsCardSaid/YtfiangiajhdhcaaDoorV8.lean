/- The reckoner: a symbolic evaluator of a program, proved sound; one of its texts. No condition. -/
import Derived.Test.YtfiangiajhdhcaaDoorV7
import Derived.IntWalk
namespace Go.Proofs.YtfiangiajhdhcaaDoor
open Go.RowKit
set_option linter.unusedVariables false
set_option maxRecDepth 100000

/-! ### Blocks that are made -/
noncomputable def fillRow (z : List SV) (n : Nat) : List SV := (List.range n).map fun i => match z[i % z.length]? with | some v => v | none => .tup []
/-- A builder's variable. -/
noncomputable def isBld (C : Ctx) (t : TypeId) : Bool :=
  match C.P.underlying t with
  | some (.struct fs) => fs.size == 2 && (match fs[0]?, fs[1]? with | some f, some g => f.name == "addr" && g.name == "buf" | _, _ => false)
  | _ => false
noncomputable def allocB (C : Ctx) (t : TypeId) (z : List SV) : SBlk :=
  match z with
  | [.nptr, v] => if isBld C t && v.one then .bld t false v else .cells z (some z.length)
  | _ => .cells z (some z.length)
noncomputable def evA (C : Ctx) (e : Operand → R SV) (sym : Nat) (o : Op) : R (SV × SBlk) :=
  match o with
  | .alloc t => (C.zero t).bind fun z => .ok (.ptr sym 0, allocB C t z)
  | .box _ x => (e x).bind fun v => if v.isTup then .no "box" else .ok (.ptr sym 0, .cells v.cells (some v.cells.length))
  | .buildSlice t len parts => (C.under t).bind fun d => match d with
    | .slice el => (C.size el).bind fun z => (C.zero el).bind fun zc => if z = 0 ∨ zc.length ≠ z ∨ len * z > 2 ^ 24 then .no "buildSlice: size" else
      (mapR (fun p => (e p.2).bind fun v => .ok (p.1, v)) parts.toList).bind fun ps => (sFill (fun i => some (i * z, z)) (fillRow zc (len * z)) ps).bind fun l =>
        .ok (.slice sym 0 len (some len) z, .cells l (some l.length))
    | _ => .no "buildSlice"
  | .makeSlice t ln cp => (C.under t).bind fun d => match d with
    | .slice el => (C.info el).bind fun i => (C.zero el).bind fun zc => (e ln).bind fun a => (e cp).bind fun b => match a, b with
      | .int _ a, .int _ b => (concI C.A a).bind fun a => (concI C.A b).bind fun b =>
        if i.size = 0 ∨ zc.length ≠ i.size ∨ a < 0 ∨ b < a ∨ i.bytes * b > 2 ^ 48 ∨ b > 2 ^ 48 then .no "makeSlice: size" else
          .ok (.slice sym 0 a.toNat (some b.toNat) i.size, .cells (fillRow zc (b.toNat * i.size)) (some (b.toNat * i.size)))
      | _, _ => .no "makeSlice: number"
    | _ => .no "makeSlice"
  | _ => .no "no making"
theorem allocB_na {C : Ctx} {t : TypeId} {z : List SV} : (allocB C t z).isAbs = false := by
  unfold allocB
  split
  · split <;> rfl
  · rfl
theorem evA_na {C : Ctx} {e : Operand → R SV} {sym : Nat} {o : Op} {v : SV} {b : SBlk} (h : evA C e sym o = .ok (v, b)) : b.isAbs = false := by
  unfold evA at h
  split at h
  · simp only [R.bind_ok] at h
    obtain ⟨z, _, h⟩ := h
    cases h; exact allocB_na
  · simp only [R.bind_ok] at h
    obtain ⟨z, _, h⟩ := h
    split at h
    · cases h
    · cases h; rfl
  · simp only [R.bind_ok] at h
    obtain ⟨d, _, h⟩ := h
    split at h
    · simp only [R.bind_ok] at h
      obtain ⟨z, _, zc, _, h⟩ := h
      split at h
      · cases h
      · simp only [R.bind_ok] at h
        obtain ⟨ps, _, l, _, h⟩ := h
        cases h; rfl
    · cases h
  · simp only [R.bind_ok] at h
    obtain ⟨d, _, h⟩ := h
    split at h
    · simp only [R.bind_ok] at h
      obtain ⟨i, _, zc, _, a, _, b', _, h⟩ := h
      split at h
      · simp only [R.bind_ok] at h
        obtain ⟨x, _, y, _, h⟩ := h
        split at h
        · cases h
        · cases h; rfl
      · cases h
    · cases h
  · cases h
section
variable {C : Ctx} {E : Val} {ρ : Rho} {H : SH} {n : Nat} {w : World}
theorem fillRow_ok {z : List SV} {zs : Array Value} (hz : DenL E ρ z zs.toList) (hp : 0 < z.length) (m : Nat) : DenL E ρ (fillRow z m) (((Array.range m).map (zs[· % zs.size]!)).toList) := by
  have hl : zs.size = z.length := by have := hz.length; simpa using this
  refine DenL.of_get (by simp [fillRow]) (fun i v hi => ?_)
  simp only [fillRow, List.getElem?_map, Option.map_eq_some_iff] at hi
  obtain ⟨j, hj, hv⟩ := hi
  have hlt : i < m := by have := (List.getElem?_eq_some_iff.1 hj).1; simpa using this
  have hji : j = i := by simp [hlt] at hj; exact hj.symm
  subst hji
  have hm : j % z.length < z.length := Nat.mod_lt _ hp
  rw [List.getElem?_eq_getElem hm] at hv
  simp only at hv
  subst hv
  obtain ⟨u, hu, hd⟩ := hz.get (List.getElem?_eq_getElem hm)
  refine ⟨u, ?_, hd⟩
  have hu' : zs[j % z.length]? = some u := by simpa using hu
  simp [hlt, hl, getElem!_def, hu']
theorem BRel.new {ρ : Rho} {w : World} {cs : Array Value} {el : TypeId} {l : List SV} (h : DenL E ρ l cs.toList) : BRel E ρ (w.alloc (.cells cs el (0, 0))) ⟨w.heap.size, 0, cs.size, undef⟩ (.cells l (some l.length)) := by
  have hl : cs.size = l.length := by have := h.length; simpa using this
  refine ⟨cs, el, cs.toList, heap_push w _, h, fun i u hi => by simpa using hi, by simp [hl], by simp, fun k hk => by injection hk with hk; show cs.size = k; omega⟩
theorem BRel.newB {ρ : Rho} {w : World} {cs : Array Value} {el : TypeId} {l : List SV} (h : DenL E ρ l cs.toList) : BRel E ρ (w.alloc (.cells cs el (0, 0))) ⟨w.heap.size, 0, cs.size, undef⟩ (allocB C el l) := by
  unfold allocB
  split
  · rename_i v
    split
    · rename_i hb
      simp only [Bool.and_eq_true] at hb
      obtain ⟨u, t, h1, ⟨u2, t2, h2, h3, e2⟩, e1⟩ := h
      cases h1; cases h3
      refine ⟨rfl, u2, h2, hb.2, ?_⟩
      have : cs = #[.pointer none, u2] := by apply Array.ext'; rw [e1, e2]
      rw [heap_push, this]
      rfl
    · exact BRel.new h
  · exact BRel.new h
theorem evA_ok (hA : C.A.Holds E.I) {e : Operand → R SV} {ε : Operand → Value} (he : ∀ x v, e x = .ok v → Den E ρ v (ε x)) {sym : Nat} {o : Oper} {v : SV} {b : SBlk} (h : evA C e sym o.op = .ok (v, b)) (w : World) :
    ∃ u cs el, (execOp ε o).run C.P w = .ok (.value u) (w.alloc (.cells cs el (0, 0))) ∧
      ∀ ρ' : Rho, ρ.le ρ' → ρ' sym = some ⟨w.heap.size, 0, cs.size, undef⟩ → Den E ρ' v u ∧ BRel E ρ' (w.alloc (.cells cs el (0, 0))) ⟨w.heap.size, 0, cs.size, undef⟩ b := by
  unfold evA at h
  unfold execOp
  split at h
  case h_1 t ho =>
    simp only [ho]
    simp only [R.bind_ok] at h
    obtain ⟨z, hz, h⟩ := h
    cases h
    obtain ⟨zv, h1, h2⟩ := zero_ok (E := E) (ρ := ρ) w hz
    refine ⟨_, zv.cells, t, by simp only [Sem.run_bind, Instr.alloc, h1, Result.andThen_ok, newVar, newRow, run_newObj_alloc, Sem.run_pure], fun ρ' hle hs => ⟨⟨_, hs, rfl⟩, BRel.newB (h2.mono hle)⟩⟩
  case h_2 t x ho =>
    simp only [ho]
    simp only [R.bind_ok] at h
    obtain ⟨y, hy, h⟩ := h
    split at h
    · cases h
    · rename_i ht
      cases h
      have hx := he _ _ hy
      refine ⟨_, (ε x).cells, t, by simp only [Sem.run_bind, Instr.box, newVar, newRow, run_newObj_alloc, Result.andThen_ok, Sem.run_pure], fun ρ' hle hs => ⟨⟨_, hs, rfl⟩, BRel.new ((hx.cells (SV.not_tup (by simpa using ht)) (SV.not_any (by simpa using ht))).mono hle)⟩⟩
  case h_3 t len parts ho =>
    simp only [ho]
    simp only [R.bind_ok] at h
    obtain ⟨d, hd, h⟩ := h
    split at h
    · rename_i el
      simp only [R.bind_ok] at h
      obtain ⟨z, hz, zc, hzc, h⟩ := h
      split at h
      · cases h
      · rename_i hc
        simp only [R.bind_ok] at h
        obtain ⟨ps, hps, l, hl, h⟩ := h
        cases h
        obtain ⟨zv, h1, h2⟩ := zero_ok (E := E) (ρ := ρ) w hzc
        have hzl : zv.cells.size = zc.length := by have := h2.length; simpa using this
        obtain ⟨us, g1, g2⟩ := sFill_ok (E := E) (ρ := ρ) (us := ((Array.range (len * z)).map (zv.cells[· % zv.cells.size]!)).toList) (fillRow_ok h2 (by omega) (len * z)) (mapP_ok he hps) hl
        have hsm : ¬ len * z > 2 ^ 24 := by omega
        refine ⟨.slice (some ⟨w.heap.size, 0, none⟩) len len, us.toArray, el, ?_, fun ρ' hle hs => ⟨⟨_, hs, .inl ⟨rfl, Nat.le_refl _, by omega⟩⟩, BRel.new (by simpa using g2.mono hle)⟩⟩
        simp only [Array.toArray_toList] at g1
        by_cases e0 : len * z = 0
        · simp only [e0] at g1
          simp [Sem.run_bind, Instr.buildSlice, under_ok w hd, size_ok w hz, e0, newRow]
          have e9 : ∀ f : Nat → Value, Array.map f (Array.range 0) = #[] := fun f => by simp
          rw [e9] at g1 ⊢
          rw [g1]
          simp
        · simp [Sem.run_bind, Instr.buildSlice, under_ok w hd, size_ok w hz, hsm, e0, h1, newRow]
          rw [g1]
          simp
    · cases h
  case h_4 t ln cp ho =>
    simp only [ho]
    simp only [R.bind_ok] at h
    obtain ⟨d, hd, h⟩ := h
    split at h
    · rename_i el
      simp only [R.bind_ok] at h
      obtain ⟨i, hi, zc, hzc, va, ha, vb, hb, h⟩ := h
      split at h
      · rename_i k1 ea k2 eb
        simp only [R.bind_ok] at h
        obtain ⟨a, hca, b', hcb, h⟩ := h
        split at h
        · cases h
        · rename_i hc
          cases h
          obtain ⟨zv, h1, h2⟩ := zero_ok (E := E) (ρ := ρ) w hzc
          have e1 : ε ln = .int k1 a := (concI_ok hA hca) ▸ (he _ _ ha : ε ln = .int k1 (ea.den E.I))
          have e2 : ε cp = .int k2 b' := (concI_ok hA hcb) ▸ (he _ _ hb : ε cp = .int k2 (eb.den E.I))
          have hsz : (sizeOf el).run C.P w = .ok i.size w := size_ok w (by simp [Ctx.size, hi, R.bind])
          have hw1 : IntKind.i64.wrap a = a := IntWalk.i64_in _ (by omega)
          have hw2 : IntKind.i64.wrap b' = b' := IntWalk.i64_in _ (by omega)
          have hinfo := run_typeInfo w (info_ok hi)
          have c1 : ¬ b' < 0 := by omega
          have c2 : ¬ ((281474976710656 : Int) < (i.bytes : Int) * b') := fun hx => hc (.inr (.inr (.inr (.inr (.inl (by simpa using hx))))))
          have c3 : ¬ a < 0 := by omega
          have c4 : ¬ b' < a := by omega
          have hrow := fillRow_ok h2 (by omega) (b'.toNat * i.size)
          have hlen : (fillRow zc (b'.toNat * i.size)).length = b'.toNat * i.size := by simp [fillRow]
          refine ⟨.slice (some ⟨w.heap.size, 0, none⟩) a.toNat b'.toNat, (Array.range (b'.toNat * i.size)).map (zv.cells[· % zv.cells.size]!), el, ?_, fun ρ' hle hs => ⟨⟨_, hs, .inl ⟨rfl, by simp; omega, by omega⟩⟩, ?_⟩⟩
          · have room : ∀ k, (askRoom k).run C.P w = .ok () w := by
              intro k
              unfold askRoom
              split <;> rfl
            by_cases e0 : b'.toNat * i.size = 0
            · have e9 : ∀ f : Nat → Value, Array.map f (Array.range 0) = #[] := fun f => by simp
              simp only [Sem.run_bind, Instr.makeSlice, under_ok w hd, Result.andThen_ok, e1, e2, asInt, asIntOf, Sem.run_pure, hinfo, hw1, hw2]
              simp [c1, c2, c3, c4, Sem.run_bind, room, hsz, e0, newRow, e9]
            · simp only [Sem.run_bind, Instr.makeSlice, under_ok w hd, Result.andThen_ok, e1, e2, asInt, asIntOf, Sem.run_pure, hinfo, hw1, hw2]
              simp [c1, c2, c3, c4, Sem.run_bind, room, hsz, e0, newRow, h1]
          · have := BRel.new (w := w) (el := el) (hrow.mono hle)
            rwa [hlen] at this
      · cases h
    · cases h
  case h_5 => cases h
end
end Go.Proofs.YtfiangiajhdhcaaDoor
