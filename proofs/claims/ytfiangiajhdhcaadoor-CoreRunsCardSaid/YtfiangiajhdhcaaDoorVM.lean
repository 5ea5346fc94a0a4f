/- The reckoner: a symbolic evaluator of a program, proved sound; one of its texts. No condition. -/
import Derived.Test.YtfiangiajhdhcaaDoorV11
import Derived.MapKept
namespace Go.Proofs.YtfiangiajhdhcaaDoor
open Go.RowKit
set_option linter.unusedVariables false
set_option maxRecDepth 100000

/-! ### Maps whose keys are numbers -/
noncomputable def entriesOf (H : SH) : SV → R (List (SV × SV × Nat))
  | .nmap => .ok []
  | .map s => (ofOpt (H.get s) "map: block").bind fun b => match b with | .map es _ => .ok es | _ => .no "map: no map"
  | _ => .no "map: of what"
noncomputable def findK (A : Asm) (k : IE) (kk : IntKind) : List (SV × SV × Nat) → Nat → R (Option (Nat × SV))
  | [], _ => .ok none
  | (.int k' e, v, _) :: l, i => if k' = kk then (cmpI A .eql k e).bind fun r => if r then .ok (some (i, v)) else findK A k kk l (i + 1) else .no "map: key"
  | _ :: _, _ => .no "map: key"
noncomputable def zeroS (C : Ctx) (t : TypeId) : R SV := (C.info t).bind fun i => (ofOpt i.zero "zero").bind ofValue
noncomputable def leftE (seen : List Nat) (es : List (SV × SV × Nat)) : List (SV × SV × Nat) := es.filter fun e => !seen.contains e.2.2
noncomputable def evNext (es : List (SV × SV × Nat)) (since : Nat) (seen : List Nat) (last : Nat) : R (Option (SV × SV × Nat)) :=
  if !seen.isEmpty && !es.isEmpty && es.all (fun e => decide (e.2.2 ≥ last)) then .no "next: gone" else
  match (if ((leftE seen es).filter fun e => decide (e.2.2 < since)).isEmpty then [none] else []) ++ (((leftE seen es).filter fun e => decide (e.2.2 < since)) ++ ((leftE seen es).filter fun e => decide (e.2.2 ≥ since))).map some with
  | [x] => .ok x
  | _ => .no "next: many"
noncomputable def evM (C : Ctx) (e : Operand → R SV) (o : Op) (H : SH) (n : Nat) : R (SV × SH × Nat) :=
  match o with
  | .makeMap _ none => .ok (.map n, H.set n (.map [] 0), n + 1)
  | .lookup t x ix ok => (C.under t).bind fun d => match d with
    | .map kt el => (C.under kt).bind fun kd => (e x).bind fun m => (e ix).bind fun k => match kd, k with
      | .int kk, .int k' ke => if k' = kk then (entriesOf H m).bind fun es => (findK C.A ke kk es 0).bind fun r => match r with
          | some (_, v) => .ok (if ok then .tup [v, .bool true] else v, H, n)
          | none => (zeroS C el).bind fun v => .ok (if ok then .tup [v, .bool false] else v, H, n)
        else .no "lookup: kinds"
      | _, _ => .no "lookup: key"
    | _ => .no "lookup: type"
  | .mapUpdate t m k x => (C.under t).bind fun d => match d with
    | .map kt _ => (C.under kt).bind fun kd => (e m).bind fun mv => (e k).bind fun kv => (e x).bind fun xv => match kd, mv, kv with
      | .int kk, .map s, .int k' ke => if k' = kk ∧ xv.isTup = false then (ofOpt (H.get s) "map: block").bind fun b => match b with
          | .map es clock => (findK C.A ke kk es 0).bind fun r => match r with
            | none => .ok (.tup [], H.set s (.map (es ++ [(.int kk ke, xv, clock)]) (clock + 1)), n)
            | some _ => .no "mapUpdate: there"
          | _ => .no "map: no map"
        else .no "mapUpdate: kinds"
      | _, _, _ => .no "mapUpdate: key"
    | _ => .no "mapUpdate: type"
  | .range t x => (C.under t).bind fun d => match d with
    | .map _ _ => (e x).bind fun v => match v with
      | .map s => (ofOpt (H.get s) "map: block").bind fun b => match b with
        | .map _ clock => .ok (.ptr n 0, H.set n (.miter s clock [] clock), n + 1)
        | _ => .no "map: no map"
      | _ => .no "range: of what"
    | _ => .no "range: type"
  | .next it false => (e it).bind fun v => match v with
    | .ptr s 0 => (ofOpt (H.get s) "next: block").bind fun b => match b with
      | .miter m since seen last => (ofOpt (H.get m) "next: map").bind fun b2 => match b2 with
        | .map es clock => (evNext es since seen last).bind fun r => match r with
          | none => .ok (.tup [.bool false], H, n)
          | some (k, v, born) => .ok (.tup [.bool true, k, v], H.set s (.miter m since (seen ++ [born]) clock), n)
        | _ => .no "next: no map"
      | _ => .no "next: no iterator"
    | _ => .no "next: of what"
  | _ => .no (.msg (opName o))
section
variable {C : Ctx} {E : Val} {ρ : Rho} {H : SH} {n : Nat} {w : World}
theorem zeroS_ok {t : TypeId} {v : SV} (h : zeroS C t = .ok v) : ∃ z, (zeroValue t).run C.P w = .ok z w ∧ Den E ρ v z := by
  simp only [zeroS, R.bind_ok, ofOpt_ok] at h
  obtain ⟨i, hi, z, hz, hv⟩ := h
  exact ⟨z, by simp [zeroValue, Sem.run_bind, run_typeInfo w (info_ok hi), hz], ofValue_ok hv⟩
theorem findK_ok (hA : C.A.Holds E.I) {k : IE} {kk kq : IntKind} : ∀ {es : List (SV × SV × Nat)} {ms : List MapEntry} {i : Nat} {r : Option (Nat × SV)}, EsR E ρ es ms → findK C.A k kk es i = .ok r →
    match r with
    | none => Instr.findNow (.int kq) (.int kk (k.den E.I)) ms i = some none
    | some (j, v) => ∃ u, Instr.findNow (.int kq) (.int kk (k.den E.I)) ms i = some (some (j, u)) ∧ Den E ρ v u
  | [], ms, i, r, he, h => by
    cases he; simp only [findK] at h; cases h; rfl
  | (kv, v, b) :: l, ms, i, r, he, h => by
    obtain ⟨m, t, h1, h2, h3, h4, rfl⟩ := he
    cases kv <;> simp only [findK, reduceCtorEq] at h
    rename_i k' e
    split at h
    · rename_i hk
      subst hk
      simp only [R.bind_ok] at h
      obtain ⟨q, hq, h⟩ := h
      have hc := cmpI_ok hA hq
      simp only [cmpD] at hc
      have hkey : m.key = .int k' (e.den E.I) := h1
      have hs : Instr.sameNow (.int kq) (.int k' (k.den E.I)) m.key = some q := by rw [hkey]; simp [Instr.sameNow, hc]
      cases q
      · simp only [Bool.false_eq_true, if_false] at h
        have := findK_ok hA (kq := kq) h4 h
        simpa only [Instr.findNow, hs] using this
      · simp only [if_true] at h
        cases h
        exact ⟨m.val, by simp only [Instr.findNow, hs], h2⟩
    · cases h
theorem EsR.append : ∀ {l l' : List (SV × SV × Nat)} {ms ms' : List MapEntry}, EsR E ρ l ms → EsR E ρ l' ms' → EsR E ρ (l ++ l') (ms ++ ms')
  | [], _, _, _, h, k => by cases h; exact k
  | (_, _, _) :: l, _, _, _, ⟨m, t, h1, h2, h3, h4, h5⟩, k => ⟨m, _, h1, h2, h3, h4.append k, by rw [h5]; rfl⟩
theorem EsR.filter {f : SV × SV × Nat → Bool} {g : MapEntry → Bool} : ∀ {l : List (SV × SV × Nat)} {ms : List MapEntry}, EsR E ρ l ms → (∀ x (m : MapEntry), m.born = x.2.2 → f x = g m) → EsR E ρ (l.filter f) (ms.filter g)
  | [], _, h, _ => by cases h; rfl
  | (k, v, b) :: l, _, ⟨m, t, h1, h2, h3, h4, h5⟩, hf => by
    subst h5
    have e := hf (k, v, b) m h3
    have ih := EsR.filter (f := f) (g := g) h4 hf
    simp only [List.filter_cons, e]
    split
    · exact ⟨m, _, h1, h2, h3, ih, rfl⟩
    · exact ih
theorem EsR.isEmpty : ∀ {l : List (SV × SV × Nat)} {ms : List MapEntry}, EsR E ρ l ms → ms.isEmpty = l.isEmpty
  | [], _, h => by cases h; rfl
  | (k, v, b) :: l, _, ⟨m, t, h1, h2, h3, h4, h5⟩ => by subst h5; rfl
theorem EsR.all {f : SV × SV × Nat → Bool} {g : MapEntry → Bool} : ∀ {l : List (SV × SV × Nat)} {ms : List MapEntry}, EsR E ρ l ms → (∀ x (m : MapEntry), m.born = x.2.2 → f x = g m) → ms.all g = l.all f
  | [], _, h, _ => by cases h; rfl
  | (k, v, b) :: l, _, ⟨m, t, h1, h2, h3, h4, h5⟩, hf => by
    subst h5
    simp only [List.all_cons, hf (k, v, b) m h3, EsR.all h4 hf]
theorem getObj_at {b : Nat} {o : Obj} (h : w.heap[b]? = some o) (hc : (match o with | .cells .. => false | _ => true) = true := by rfl) : (getObj b).run C.P w = .ok o w := by
  cases o <;> first | (simp at hc; done) | simp [getObj, Sem.run, h]
theorem setObj_at {b : Nat} {o o' : Obj} (h : w.heap[b]? = some o) (hc : (match o with | .cells .. => false | _ => true) = true := by rfl) : (setObj b o').run C.P w = .ok () { w with heap := w.heap.setIfInBounds b o' } := by
  cases o <;> first | (simp at hc; done) | simp [setObj, Sem.run, h]
theorem WOnly.setObj {b : Nat} (o' : Obj) : WOnly b w { w with heap := w.heap.setIfInBounds b o' } :=
  ⟨rfl, rfl, rfl, by simp, fun k hk => by simp only []; rw [Array.getElem?_setIfInBounds, if_neg (fun e => hk e.symm)]⟩
theorem heap_setObj {b : Nat} {o o' : Obj} (h : w.heap[b]? = some o) : ({ w with heap := w.heap.setIfInBounds b o' } : World).heap[b]? = some o' := by
  have := heap_lt h
  simp [this]
theorem evM_ok (hA : C.A.Holds E.I) (r : StR E ρ H n w) {e : Operand → R SV} {ε : Operand → Value} (he : ∀ x v, e x = .ok v → Den E ρ v (ε x)) {o : Oper} {v : SV} {H' : SH} {n' : Nat} (h : evM C e o.op H n = .ok (v, H', n')) :
    ∃ u w' ρ', Stp E ρ H n w ρ' H' n' w' ∧ Den E ρ' v u ∧ ((execOp ε o).run C.P w = .ok (.value u) w' ∨ ((execOp ε o).run C.P w = .ok .skip w' ∧ u = undef)) := by
  unfold evM at h
  unfold execOp
  split at h
  case h_1 t ho =>
    simp only [ho]
    cases h
    refine ⟨_, _, _, Stp.alloc (e := 0) r (.map #[] 0) (b := .map [] 0) ⟨#[], heap_push _ _, rfl⟩, ⟨_, Rho.upd_same _ _ _, rfl⟩, .inl ?_⟩
    simp [Instr.makeMap]
  case h_2 t x ix ok ho =>
    simp only [ho]
    simp only [R.bind_ok] at h
    obtain ⟨d, hd, h⟩ := h
    split at h
    case h_2 => cases h
    rename_i kt el
    simp only [R.bind_ok] at h
    obtain ⟨kd, hkd, m, hm, k, hk, h⟩ := h
    split at h
    case h_2 => cases h
    rename_i kk k' ke
    split at h
    case isFalse => cases h
    rename_i hkk
    subst hkk
    simp only [R.bind_ok] at h
    obtain ⟨es, hes, q, hq, h⟩ := h
    have hu := ofOpt_ok.1 hd
    have hku := ofOpt_ok.1 hkd
    have ek : ε ix = .int k' (ke.den E.I) := he _ _ hk
    have hkey : MapKept.IsKey (.int k') (Value.int k' (ke.den E.I)) := rfl
    have key : ∃ ms : Array MapEntry, EsR E ρ es ms.toList ∧ ((ε x = .map none ∧ ms = #[]) ∨ ∃ b clock, ε x = .map (some b) ∧ w.heap[b]? = some (.map ms clock)) := by
      have hx := he _ _ hm
      unfold entriesOf at hes
      split at hes
      · cases hes; exact ⟨#[], rfl, .inl ⟨hx, rfl⟩⟩
      · rename_i s
        simp only [R.bind_ok, ofOpt_ok] at hes
        obtain ⟨b, hb, hes⟩ := hes
        split at hes
        · rename_i es' clock
          cases hes
          obtain ⟨p, hp, e1⟩ := hx
          obtain ⟨p', hp', ms, g1, g2⟩ := r.rel.blk _ _ hb
          rw [hp] at hp'; cases hp'
          exact ⟨ms, g2, .inr ⟨p.b, clock, e1, g1⟩⟩
        · cases hes
      · cases hes
    obtain ⟨ms, hms, hx⟩ := key
    have fk := findK_ok hA (kq := k') hms hq
    cases q with
    | some jv =>
      obtain ⟨j, v'⟩ := jv
      obtain ⟨u, f1, f2⟩ := fk
      simp only at h
      cases h
      rcases hx with ⟨ex, rfl⟩ | ⟨b, clock, ex, hb⟩
      · simp [Instr.findNow] at f1
      · cases ok
        · refine ⟨u, w, ρ, .refl r, f2, .inl ?_⟩
          simp [Sem.run_bind, Instr.lookup, run_underlying hu, ex, ek, getObj_at hb, MapKept.run_checkKey hku hkey, MapKept.run_findKey hku f1]
        · refine ⟨.tuple #[u, .bool true], w, ρ, .refl r, ⟨[u, .bool true], ⟨u, _, f2, ⟨_, _, rfl, rfl, rfl⟩, rfl⟩, rfl⟩, .inl ?_⟩
          simp [Sem.run_bind, Instr.lookup, run_underlying hu, ex, ek, getObj_at hb, MapKept.run_checkKey hku hkey, MapKept.run_findKey hku f1]
    | none =>
      simp only [R.bind_ok] at h
      obtain ⟨z, hz, h⟩ := h
      cases h
      obtain ⟨zv, z1, z2⟩ := zeroS_ok (E := E) (ρ := ρ) (w := w) hz
      have fk : Instr.findNow (.int k') (.int k' (ke.den E.I)) ms.toList 0 = some none := fk
      rcases hx with ⟨ex, rfl⟩ | ⟨b, clock, ex, hb⟩
      · cases ok
        · refine ⟨zv, w, ρ, .refl r, z2, .inl ?_⟩
          simp [Sem.run_bind, Instr.lookup, run_underlying hu, ex, ek, MapKept.run_checkKey hku hkey, MapKept.run_findKey hku fk, z1]
        · refine ⟨.tuple #[zv, .bool false], w, ρ, .refl r, ⟨[zv, .bool false], ⟨zv, _, z2, ⟨_, _, rfl, rfl, rfl⟩, rfl⟩, rfl⟩, .inl ?_⟩
          simp [Sem.run_bind, Instr.lookup, run_underlying hu, ex, ek, MapKept.run_checkKey hku hkey, MapKept.run_findKey hku fk, z1]
      · cases ok
        · refine ⟨zv, w, ρ, .refl r, z2, .inl ?_⟩
          simp [Sem.run_bind, Instr.lookup, run_underlying hu, ex, ek, getObj_at hb, MapKept.run_checkKey hku hkey, MapKept.run_findKey hku fk, z1]
        · refine ⟨.tuple #[zv, .bool false], w, ρ, .refl r, ⟨[zv, .bool false], ⟨zv, _, z2, ⟨_, _, rfl, rfl, rfl⟩, rfl⟩, rfl⟩, .inl ?_⟩
          simp [Sem.run_bind, Instr.lookup, run_underlying hu, ex, ek, getObj_at hb, MapKept.run_checkKey hku hkey, MapKept.run_findKey hku fk, z1]
  case h_3 t m k x ho =>
    simp only [ho]
    simp only [R.bind_ok] at h
    obtain ⟨d, hd, h⟩ := h
    split at h
    case h_2 => cases h
    rename_i kt el
    simp only [R.bind_ok] at h
    obtain ⟨kd, hkd, mv, hm, kv, hk, xv, hx, h⟩ := h
    split at h
    case h_2 => cases h
    rename_i kk s k' ke
    split at h
    case isFalse => cases h
    rename_i hkk
    obtain ⟨rfl, htup⟩ := hkk
    simp only [R.bind_ok, ofOpt_ok] at h
    obtain ⟨b, hb, h⟩ := h
    split at h
    case h_2 => cases h
    rename_i es clock
    simp only [R.bind_ok] at h
    obtain ⟨q, hq, h⟩ := h
    cases q with
    | some _ => cases h
    | none =>
      cases h
      have hu := ofOpt_ok.1 hd
      have hku := ofOpt_ok.1 hkd
      have ek : ε k = .int k' (ke.den E.I) := he _ _ hk
      have hkey : MapKept.IsKey (.int k') (Value.int k' (ke.den E.I)) := rfl
      obtain ⟨p, hp, e1⟩ := he _ _ hm
      obtain ⟨p', hp', ms, g1, g2⟩ := r.rel.blk _ _ hb
      rw [hp] at hp'; cases hp'
      have fk : Instr.findNow (.int k') (.int k' (ke.den E.I)) ms.toList 0 = some none := findK_ok hA (kq := k') g2 hq
      refine ⟨undef, _, ρ, Stp.write r hb hp (WOnly.setObj (.map (ms.push { key := .int k' (ke.den E.I), val := ε x, born := clock }) (clock + 1))) ⟨_, heap_setObj g1, ?_⟩, ⟨[], rfl, rfl⟩, .inr ⟨?_, rfl⟩⟩
      · rw [Array.toList_push]
        exact g2.append ⟨{ key := .int k' (ke.den E.I), val := ε x, born := clock }, [], show Den E ρ (.int k' ke) (.int k' (ke.den E.I)) from rfl, he _ _ hx, rfl, rfl, rfl⟩
      · simp [Sem.run_bind, Instr.mapUpdate, run_underlying hu, e1, ek, getObj_at g1, MapKept.run_checkKey hku hkey, MapKept.run_findKey hku fk, setObj_at g1]
  case h_4 t x ho =>
    simp only [ho]
    simp only [R.bind_ok] at h
    obtain ⟨d, hd, h⟩ := h
    split at h
    case h_2 => cases h
    rename_i kt el
    simp only [R.bind_ok] at h
    obtain ⟨m, hm, h⟩ := h
    split at h
    case h_2 => cases h
    rename_i s
    simp only [R.bind_ok, ofOpt_ok] at h
    obtain ⟨b, hb, h⟩ := h
    split at h
    case h_2 => cases h
    rename_i es clock
    cases h
    obtain ⟨p, hp, e1⟩ := he _ _ hm
    obtain ⟨p', hp', ms, g1, g2⟩ := r.rel.blk _ _ hb
    rw [hp] at hp'; cases hp'
    have hle : ρ.le (ρ.upd n ⟨w.heap.size, 0, 0, undef⟩) := Rho.le_upd (r.fresh _ (Nat.le_refl _))
    refine ⟨_, _, _, Stp.alloc (e := 0) r (.mapIter (some p.b) clock #[] clock) (b := .miter s clock [] clock) ⟨p, hle _ _ hp, rfl, heap_push _ _⟩, ⟨_, Rho.upd_same _ _ _, rfl⟩, .inl ?_⟩
    simp [Sem.run_bind, Instr.range, run_underlying (ofOpt_ok.1 hd), e1, getObj_at g1]
  case h_5 it ho =>
    simp only [ho]
    simp only [R.bind_ok] at h
    obtain ⟨iv, hi, h⟩ := h
    split at h
    case h_2 => cases h
    rename_i s
    simp only [R.bind_ok, ofOpt_ok] at h
    obtain ⟨b, hb, h⟩ := h
    split at h
    case h_2 => cases h
    rename_i m since seen last
    simp only [R.bind_ok, ofOpt_ok] at h
    obtain ⟨b2, hb2, h⟩ := h
    split at h
    case h_2 => cases h
    rename_i es clock
    simp only [R.bind_ok] at h
    obtain ⟨q, hq, h⟩ := h
    obtain ⟨p, hp, e1⟩ := he _ _ hi
    obtain ⟨p', hp', pm, hpm, po, g1⟩ := r.rel.blk _ _ hb
    rw [hp] at hp'; cases hp'
    obtain ⟨pm', hpm', ms, g2, g3⟩ := r.rel.blk _ _ hb2
    rw [hpm] at hpm'; cases hpm'
    rw [po] at e1
    have e1 : ε it = .pointer (some ⟨p.b, 0, none⟩) := e1
    unfold evNext at hq
    split at hq
    · cases hq
    rename_i hgone
    have hL : EsR E ρ (leftE seen es) (ms.filter fun e => !seen.toArray.contains e.born).toList := by
      rw [Array.toList_filter]
      exact g3.filter (fun x m hx => by rw [hx]; simp)
    have hO := hL.filter (f := fun e => decide (e.2.2 < since)) (g := fun (e : MapEntry) => decide (e.born < since)) (fun x m hx => by rw [hx])
    have hN := hL.filter (f := fun e => decide (e.2.2 ≥ since)) (g := fun (e : MapEntry) => decide (e.born ≥ since)) (fun x m hx => by rw [hx])
    have hg : (!seen.toArray.isEmpty && !ms.isEmpty && ms.all fun (e : MapEntry) => decide (e.born ≥ last)) = false := by
      have h1 := g3.isEmpty
      have h2 := g3.all (f := fun e => decide (e.2.2 ≥ last)) (g := fun (e : MapEntry) => decide (e.born ≥ last)) (fun x m hx => by rw [hx])
      have h3 : ms.isEmpty = es.isEmpty := by rw [← h1]; simp
      have h4 : (ms.all fun (e : MapEntry) => decide (e.born ≥ last)) = es.all fun e => decide (e.2.2 ≥ last) := by rw [← h2]; simp
      have h5 : seen.toArray.isEmpty = seen.isEmpty := by simp
      rw [h3, h4, h5]
      simpa using hgone
    generalize hLd : (ms.filter fun e => !seen.toArray.contains e.born) = left at hL hO hN
    generalize leftE seen es = ls at hL hO hN hq
    have hO : EsR E ρ (ls.filter fun e => decide (e.2.2 < since)) (left.filter fun (e : MapEntry) => decide (e.born < since)).toList := by rw [Array.toList_filter]; exact hO
    have hN : EsR E ρ (ls.filter fun e => decide (e.2.2 ≥ since)) (left.filter fun (e : MapEntry) => decide (e.born ≥ since)).toList := by rw [Array.toList_filter]; exact hN
    generalize hOd : (left.filter fun (e : MapEntry) => decide (e.born < since)) = old at hO
    generalize hNd : (left.filter fun (e : MapEntry) => decide (e.born ≥ since)) = new at hN
    generalize (ls.filter fun e => decide (e.2.2 < since)) = os at hO hq
    generalize (ls.filter fun e => decide (e.2.2 ≥ since)) = ns at hN hq
    have hcand : ((if old.isEmpty then #[none] else #[]) ++ (old ++ new).map some : Array (Option MapEntry)).toList = (if os.isEmpty then [none] else []) ++ (old.toList ++ new.toList).map some := by
      have : old.isEmpty = os.isEmpty := by rw [← hO.isEmpty]; simp
      rw [this]
      cases os.isEmpty <;> simp
    have hrel : ∀ {a b : List (SV × SV × Nat)} {x y : List MapEntry}, EsR E ρ a x → EsR E ρ b y → ∀ {q : Option (SV × SV × Nat)} {z : Bool}, (if z then [none] else []) ++ (a ++ b).map some = [q] → ∃ mq : Option MapEntry, (if z then [none] else []) ++ (x ++ y).map some = [mq] ∧
        match q, mq with | none, none => True | some (k, v, born), some m => Den E ρ k m.key ∧ Den E ρ v m.val ∧ m.born = born | _, _ => False := by
      intro a b x y ha hb q z hq
      have hab := ha.append hb
      generalize a ++ b = c at hab hq
      generalize x ++ y = d at hab
      match c, hab with
      | [], hab =>
        cases hab
        cases z
        · simp at hq
        · simp at hq; subst hq; exact ⟨none, rfl, trivial⟩
      | [(k, v, born)], ⟨m, t, h1, h2, h3, h4, h5⟩ =>
        cases h4; subst h5
        cases z
        · simp at hq; subst hq; exact ⟨some m, rfl, h1, h2, h3⟩
        · simp at hq
      | _ :: _ :: _, _ => cases z <;> simp at hq
    split at hq
    case h_2 => cases hq
    rename_i q' hq'
    cases hq
    obtain ⟨mq, k1, k2⟩ := hrel hO hN hq'
    have hcand2 : ((if old.isEmpty then #[none] else #[]) ++ (old ++ new).map some : Array (Option MapEntry)) = #[mq] := by
      apply Array.ext'; rw [hcand, k1]
    have hch : ∀ W : World, (choose (Question.mapNext 1)).run C.P W = .ok 0 W := fun W => by simp [choose, Sem.run, Question.forced]
    have hrun : (Instr.next (ε it) false o.type).run C.P w = (match mq with
        | some e => (do setObj p.b (.mapIter (some pm.b) since (seen.toArray.push e.born) clock); pure (.tuple #[.bool true, e.key, e.val]) : Sem Value).run C.P w
        | none => .ok (.tuple #[.bool false]) w) := by
      rw [e1]
      simp only [Instr.next, Sem.run_bind, getObj_at g1, getObj_at g2, Result.andThen_ok, hg, Bool.false_eq_true, if_false, hLd, hOd, hNd, hcand2]
      have : (#[mq] : Array (Option MapEntry)).size = 1 := rfl
      rw [this, hch]
      cases mq <;> simp
    match q, mq, k2, h with
    | none, none, _, h =>
      cases h
      refine ⟨_, w, ρ, .refl r, ⟨[.bool false], ⟨_, _, rfl, rfl, rfl⟩, rfl⟩, .inl ?_⟩
      simp [hrun]
    | some (k, v', born), some me, k2, h =>
      cases h
      obtain ⟨d1, d2, d3⟩ := k2
      refine ⟨.tuple #[.bool true, me.key, me.val], _, ρ, Stp.write r hb hp (WOnly.setObj (.mapIter (some pm.b) since (seen.toArray.push me.born) clock)) ⟨pm, hpm, po, ?_⟩, ⟨[.bool true, me.key, me.val], ⟨_, _, rfl, ⟨_, _, d1, ⟨_, _, d2, rfl, rfl⟩, rfl⟩, rfl⟩, rfl⟩, .inl ?_⟩
      · rw [heap_setObj g1, d3]; simp
      · simp [hrun, setObj_at g1]
  case h_6 => cases h
theorem evM_congr {e e' : Operand → R SV} {o : Op} {H : SH} {n : Nat} (h : ∀ x ∈ o.operands, e x = e' x) : evM C e o H n = evM C e' o H n := by
  unfold evM
  split
  · rfl
  · rename_i t x ix ok; rw [h x (by simp [Op.operands]), h ix (by simp [Op.operands])]
  · rename_i t m k x; rw [h m (by simp [Op.operands]), h k (by simp [Op.operands]), h x (by simp [Op.operands])]
  · rename_i t x; rw [h x (by simp [Op.operands])]
  · rename_i it; rw [h it (by simp [Op.operands])]
  · rfl
/-! ### delete -/
noncomputable def evDelete (C : Ctx) (ts : Array TypeId) (m k : SV) (H : SH) : R SH :=
  (ofOpt ts[0]? "delete").bind fun t => (C.under t).bind fun d => match d with
  | .map kt _ => (C.under kt).bind fun kd => match kd, m, k with
    | .int kk, .map s, .int k' ke => if k' = kk then (ofOpt (H.get s) "map: block").bind fun b => match b with
        | .map es clock => (findK C.A ke kk es 0).bind fun r => match r with
          | some (i, _) => .ok (H.set s (.map (es.eraseIdx i) clock))
          | none => .ok (H.set s (.map es clock))
        | _ => .no "map: no map"
      else .no "delete: kinds"
    | _, _, _ => .no "delete: key"
  | _ => .no "delete: type"
theorem EsR.eraseIdx : ∀ {l : List (SV × SV × Nat)} {ms : List MapEntry} (i : Nat), EsR E ρ l ms → EsR E ρ (l.eraseIdx i) (ms.eraseIdx i)
  | [], _, i, h => by cases h; rfl
  | (_, _, _) :: l, _, 0, ⟨m, t, h1, h2, h3, h4, h5⟩ => by subst h5; exact h4
  | (_, _, _) :: l, _, i + 1, ⟨m, t, h1, h2, h3, h4, h5⟩ => by subst h5; exact ⟨m, _, h1, h2, h3, EsR.eraseIdx i h4, rfl⟩
theorem evDelete_ok (hA : C.A.Holds E.I) (r : StR E ρ H n w) {ts : Array TypeId} {ty : TypeId} {as : Array Value} {m k : SV} {a b : Value} {H' : SH} (ha : as[0]? = some a) (hb : as[1]? = some b) (hm : Den E ρ m a) (hk : Den E ρ k b)
    (h : evDelete C ts m k H = .ok H') : ∃ w', (Builtin.delete_ ts ty as).run C.P w = .ok (.tuple #[]) w' ∧ Stp E ρ H n w ρ H' n w' := by
  simp only [evDelete, R.bind_ok, ofOpt_ok] at h
  obtain ⟨t, ht, d, hd, h⟩ := h
  split at h
  case h_2 => cases h
  rename_i kt el
  simp only [R.bind_ok] at h
  obtain ⟨kd, hkd, h⟩ := h
  split at h
  case h_2 => cases h
  rename_i kk s k' ke
  split at h
  case isFalse => cases h
  rename_i hkk
  subst hkk
  simp only [R.bind_ok, ofOpt_ok] at h
  obtain ⟨blk, hblk, h⟩ := h
  split at h
  case h_2 => cases h
  rename_i es clock
  simp only [R.bind_ok] at h
  obtain ⟨q, hq, h⟩ := h
  have hu := ofOpt_ok.1 hd
  have hku := ofOpt_ok.1 hkd
  have ek : b = .int k' (ke.den E.I) := hk
  have hkey : MapKept.IsKey (.int k') (Value.int k' (ke.den E.I)) := rfl
  obtain ⟨p, hp, e1⟩ := hm
  obtain ⟨p', hp', ms, g1, g2⟩ := r.rel.blk _ _ hblk
  rw [hp] at hp'; cases hp'
  have fk := findK_ok hA (kq := k') g2 hq
  subst ek; subst e1
  cases q with
  | none =>
    cases h
    have fk : Instr.findNow (.int k') (.int k' (ke.den E.I)) ms.toList 0 = some none := fk
    refine ⟨_, ?_, Stp.write r hblk hp (WOnly.setObj (.map ms clock)) ⟨_, heap_setObj g1, g2⟩⟩
    simp [Builtin.delete_, ht, ha, hb, Sem.run_bind, run_underlying hu, getObj_at g1, MapKept.run_checkKey hku hkey, MapKept.run_findKey hku fk, setObj_at g1]
  | some jv =>
    obtain ⟨i, v⟩ := jv
    obtain ⟨u, f1, f2⟩ := fk
    simp only at h
    cases h
    refine ⟨_, ?_, Stp.write r hblk hp (WOnly.setObj (.map (ms.eraseIdxIfInBounds i) clock)) ⟨_, heap_setObj g1, ?_⟩⟩
    · simp [Builtin.delete_, ht, ha, hb, Sem.run_bind, run_underlying hu, getObj_at g1, MapKept.run_checkKey hku hkey, MapKept.run_findKey hku f1, setObj_at g1]
    · rw [Array.toList_eraseIdxIfInBounds]; exact g2.eraseIdx i
end
end Go.Proofs.YtfiangiajhdhcaaDoor
