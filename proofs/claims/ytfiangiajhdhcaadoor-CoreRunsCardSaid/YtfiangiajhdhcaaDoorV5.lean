/- The reckoner: a symbolic evaluator of a program, proved sound; one of its texts. No condition. -/
import Derived.Test.YtfiangiajhdhcaaDoorV4
namespace Go.Proofs.YtfiangiajhdhcaaDoor
open Go.RowKit
set_option linter.unusedVariables false
set_option maxRecDepth 100000

/-- min (below true) and max of numbers. -/
noncomputable def sMin (C : Ctx) (below : Bool) : SV → List SV → R SV
  | x, [] => .ok x
  | .int k a, .int l b :: rest => (cmpI C.A (if below then .lss else .gtr) b a).bind fun r => sMin C below (.int k (if r then b else a)) rest
  | _, _ => .no "min"
noncomputable def sLen (C : Ctx) (t : TypeId) (v : SV) : R SV := (C.under t).bind fun d => match d, v with
  | .string, .str s => .ok (.int .i64 (.lit s.length))
  | .array n _, _ => .ok (.int .i64 (.lit n))
  | .slice _, .nslice => .ok (.int .i64 (.lit 0))
  | .slice _, .slice _ _ n _ _ => .ok (.int .i64 (.lit n))
  | .slice _, .asl _ len _ _ _ => .ok (.int .i64 len)
  | _, _ => .no "len"
noncomputable def evB (C : Ctx) (b : Builtin) (ts : Array TypeId) (args : List SV) : R SV :=
  match b, args with
  | .len, [v] => (ofOpt ts[0]? "len").bind fun t => sLen C t v
  | .min, v :: rest => sMin C true v rest
  | .max, v :: rest => sMin C false v rest
  | _, _ => .no "builtin"
noncomputable def opName : Op → String
  | .insert .. => "op insert" | .ready _ => "op ready" | .waits _ => "op waits" | .sliceToArrayPointer .. => "op sliceToArrayPointer" | .makeMap .. => "op makeMap" | .makeChan .. => "op makeChan" | .lookup .. => "op lookup" | .mapUpdate .. => "op mapUpdate"
  | .mapEntry .. => "op mapEntry" | .entryStore .. => "op entryStore" | .range .. => "op range" | .next .. => "op next" | .entry _ => "op entry" | .typeAssert .. => "op typeAssert" | .go _ => "op go" | .defer _ => "op defer" | .panic _ => "op panic"
  | .send .. => "op send" | .recv .. => "op recv" | .select .. => "op select" | _ => "no quiet operation"
noncomputable def elsAt (e : IE) : List (IE × List EC) → Option (List EC)
  | [] => none
  | (x, s) :: l => if x.beq e then some s else elsAt e l
theorem elsAt_ok {e : IE} {s : List EC} : ∀ {l : List (IE × List EC)}, elsAt e l = some s → (e, s) ∈ l
  | [], h => by cases h
  | (x, t) :: l, h => by
    simp only [elsAt] at h
    split at h
    · rename_i hb
      cases h
      rw [IE.eq_of_beq hb]
      exact List.mem_cons_self ..
    · exact List.mem_cons_of_mem _ (elsAt_ok h)
noncomputable def focAt (e : IE) : List (IE × Nat) → Option Nat
  | [] => none
  | (x, s) :: l => if x.beq e then some s else focAt e l
theorem focAt_ok {e : IE} {s : Nat} : ∀ {l : List (IE × Nat)}, focAt e l = some s → (e, s) ∈ l
  | [], h => by cases h
  | (x, t) :: l, h => by
    simp only [focAt] at h
    split at h
    · rename_i hb
      cases h
      rw [IE.eq_of_beq hb]
      exact List.mem_cons_self ..
    · exact List.mem_cons_of_mem _ (focAt_ok h)
noncomputable def belsAt (e : IE) : List (IE × Nat × List EC) → Option (Nat × List EC)
  | [] => none
  | (x, i, s) :: l => if x.beq e then some (i, s) else belsAt e l
theorem belsAt_ok {e : IE} {i : Nat} {s : List EC} : ∀ {l : List (IE × Nat × List EC)}, belsAt e l = some (i, s) → (e, i, s) ∈ l
  | [], h => by cases h
  | (x, j, t) :: l, h => by
    simp only [belsAt] at h
    split at h
    · rename_i hb
      cases h
      rw [IE.eq_of_beq hb]
      exact List.mem_cons_self ..
    · exact List.mem_cons_of_mem _ (belsAt_ok h)
/-- A pointer to an element of a list whose length is a letter. -/
noncomputable def aslAt (s : Nat) (ie : IE) (foc : List (IE × Nat)) (els : List (IE × Nat × List EC)) : R SV :=
  match belsAt ie els with
  | some (i, l) => .ok (.belt s i l 0)
  | none => match focAt ie foc with
    | some s => .ok (.ptr s 0)
    | none => .no "indexAddr: no focus"
noncomputable def evQ (C : Ctx) (e : Operand → R SV) (o : Op) : R SV :=
  match o with
  | .move x => e x
  | .assign x => e x
  | .pick c a b => (e c).bind fun v => match v with
    | .bool t => if t then e a else e b
    | _ => .no "pick"
  | .nilCheck x => (e x).bind fun v => match v with
    | .ptr .. => .ok v
    | .elt .. => .ok v
    | .belt .. => .ok v
    | .func .. => .ok v
    | .yield _ => .ok v
    | _ => .no "nilCheck"
  | .unOp op _ x => (e x).bind fun v => match op, v with
    | .not, .bool b => .ok (.bool !b)
    | .neg, .int k a => .ok (.int k (binI C.A .sub k (.lit 0) a))
    | _, _ => .no "unOp"
  | .binOp op t x y _ => (e x).bind fun a => (e y).bind fun b => sBin C op t a b
  | .convert s d x => (C.under s).bind fun _ => (C.under d).bind fun du => (e x).bind fun v => match du, v with
    | .int k, .int _ a => .ok (.int k (convI C.A k a))
    | .string, .str s => .ok (.str s)
    | _, _ => .no "convert"
  | .makeInterface t x => (C.under t).bind fun d => match d with
    | .interface _ => .no "makeInterface"
    | _ => (e x).bind fun v => .ok (.iface t v)
  | .makeFunc fn first cap => match fn with
    | .func f => (mapR e first.toList).bind fun a => (mapR e cap.toList).bind fun b => .ok (.func f a b)
    | _ => .no "makeFunc"
  | .slice t x lo hi mx => match mx, hi with
    | none, _ => sSlice C e t x lo hi
    | some m, some h => sSlice3 C e t x lo h m
    | some _, none => .no "slice3"
  | .fieldAddr s x f => (C.under s).bind fun d => match d with
    | .struct fs => (ofOpt fs[f]? "field").bind fun fl => (C.size fl.type).bind fun n => if n = 0 then .no "fieldAddr: empty" else (e x).bind fun v => match v with
      | .ptr s off => .ok (.ptr s (off + fl.offset))
      | .elt l off => .ok (.elt l (off + fl.offset))
      | .belt s i l off => .ok (.belt s i l (off + fl.offset))
      | _ => .no "fieldAddr"
    | _ => .no "fieldAddr: struct"
  | .field t x f => (C.under t).bind fun d => match d with
    | .struct fs => (ofOpt fs[f]? "field").bind fun fl => (e x).bind fun v => match v with
      | .agg l => sPart C fl.type l fl.offset
      | _ => .no "field"
    | _ => .no "field: struct"
  | .indexAddr t x ix => (C.under t).bind fun d => (e ix).bind fun i => (e x).bind fun v => match d, i, v with
    | .array n el, .int _ ie, .ptr s off => (concI C.A ie).bind fun i => (C.size el).bind fun z => if 0 ≤ i ∧ i < n then .ok (.ptr s (off + i.toNat * z)) else .no "indexAddr: range"
    | .slice el, .int _ ie, .slice s off n _ _ => (concI C.A ie).bind fun i => (C.size el).bind fun z => if 0 ≤ i ∧ i < n then .ok (.ptr s (off + i.toNat * z)) else .no "indexAddr: range"
    | .slice el, .int _ ie, .asl s len sz foc els => (C.size el).bind fun z => (cmpI C.A .geq ie (.lit 0)).bind fun r1 => (cmpI C.A .lss ie len).bind fun r2 => if (r1 && r2) && z == sz then aslAt s ie foc els else .no "indexAddr: range"
    | .array n el, .int _ ie, .elt l off => (concI C.A ie).bind fun i => (C.size el).bind fun z => if 0 ≤ i ∧ i < n then .ok (.elt l (off + i.toNat * z)) else .no "indexAddr: range"
    | .array n el, .int _ ie, .belt s j l off => (concI C.A ie).bind fun i => (C.size el).bind fun z => if 0 ≤ i ∧ i < n then .ok (.belt s j l (off + i.toNat * z)) else .no "indexAddr: range"
    | _, _, _ => .no "indexAddr"
  | .index t x ix => (C.under t).bind fun d => (e ix).bind fun i => (e x).bind fun v => match d, i, v with
    | .array n el, .int _ ie, .agg l => (concI C.A ie).bind fun i => (C.size el).bind fun z => if 0 ≤ i ∧ i < n then sPart C el l (i.toNat * z) else .no "index: range"
    | .string, .int _ (.lit i), .str s => if 0 ≤ i then (ofOpt s[i.toNat]? "index: string").bind fun b => .ok (.int .u8 (.lit b)) else .no "index: range"
    | _, _, _ => .no "index"
  | .extract x i => (e x).bind fun v => match v with
    | .tup l => ofOpt l[i]? "extract"
    | _ => .no "extract"
  | .build t parts => (mapR (fun p => (e p.2).bind fun v => .ok (p.1, v)) parts.toList).bind fun ps => (sBuild C t ps).bind fun l => .ok (.agg l)
  | .call c => match c.callee with
    | .builtin b => (mapR e c.args.toList).bind fun args => evB C b c.argTypes args
    | _ => .no "call"
  | o => .no (.msg (opName o))
section
variable {C : Ctx} {E : Val} {ρ : Rho} (w : World)
theorem mapR_ok {e : Operand → R SV} {ε : Operand → Value} (he : ∀ x v, e x = .ok v → Den E ρ v (ε x)) : ∀ {xs : List Operand} {l : List SV}, mapR e xs = .ok l → DenL E ρ l (xs.map ε)
  | [], l, h => by simp [mapR] at h; subst h; rfl
  | x :: xs, l, h => by
    simp only [mapR, R.bind_ok] at h
    obtain ⟨v, hv, vs, hvs, h⟩ := h
    cases h
    exact ⟨_, _, he _ _ hv, mapR_ok he hvs, rfl⟩
theorem mapP_ok {e : Operand → R SV} {ε : Operand → Value} (he : ∀ x v, e x = .ok v → Den E ρ v (ε x)) : ∀ {xs : List (Nat × Operand)} {l : List (Nat × SV)}, mapR (fun p => (e p.2).bind fun v => .ok (p.1, v)) xs = .ok l →
    DenP E ρ l (xs.map fun p => (p.1, ε p.2))
  | [], l, h => by simp [mapR] at h; subst h; rfl
  | x :: xs, l, h => by
    simp only [mapR, R.bind_ok] at h
    obtain ⟨v, ⟨u, hu, hv⟩, vs, hvs, h⟩ := h
    cases h
    cases hv
    exact ⟨_, _, he _ _ hu, mapP_ok he hvs, rfl⟩
theorem sMin_ok (hA : C.A.Holds E.I) (below : Bool) : ∀ {rest : List SV} {x v : SV} {a : Value} {as : List Value}, Den E ρ x a → DenL E ρ rest as → sMin C below x rest = .ok v →
    ∃ u, (as.foldlM (if below then Builtin.min2 else Builtin.max2) a).run C.P w = .ok u w ∧ Den E ρ v u
  | [], x, v, a, as, hx, hr, h => by
    cases hr
    have : x = v := by cases x <;> simp [sMin] at h <;> exact h
    subst this
    exact ⟨a, by simp, hx⟩
  | y :: rest, x, v, a, as, hx, hr, h => by
    obtain ⟨b, bs, hb, hbs, rfl⟩ := hr
    cases x <;> try (simp [sMin] at h; done)
    rename_i k p
    cases y <;> try (simp [sMin] at h; done)
    rename_i l q
    simp only [sMin, R.bind_ok] at h
    obtain ⟨r, hr, h⟩ := h
    have hc := cmpI_ok hA hr
    cases hx; cases hb
    obtain ⟨u, h1, h2⟩ := sMin_ok hA below (show Den E ρ (.int k (if r then q else p)) (.int k ((if r then q else p).den E.I)) from rfl) hbs h
    refine ⟨u, ?_, h2⟩
    rw [List.foldlM_cons]
    cases below
    · simp only [Bool.false_eq_true, if_false] at hc h1 ⊢
      simp only [cmpD] at hc
      rw [Sem.run_bind]
      have e1 : (Builtin.max2 (.int k (p.den E.I)) (.int l (q.den E.I))).run C.P w = .ok (.int k ((if r then q else p).den E.I)) w := by
        simp only [Builtin.max2]
        cases r <;> simp at hc <;> simp [hc]
        all_goals (intro; omega)
      rw [e1]; exact h1
    · simp only [if_true] at hc h1 ⊢
      simp only [cmpD] at hc
      rw [Sem.run_bind]
      have e1 : (Builtin.min2 (.int k (p.den E.I)) (.int l (q.den E.I))).run C.P w = .ok (.int k ((if r then q else p).den E.I)) w := by
        simp only [Builtin.min2]
        cases r <;> simp at hc <;> simp [hc]
        all_goals (intro; omega)
      rw [e1]; exact h1
theorem sLen_ok {t ty : TypeId} {v x : SV} {ts : Array TypeId} {a : Value} {as : Array Value} (ht : ts[0]? = some t) (ha : as[0]? = some a) (hx : Den E ρ x a) (h : sLen C t x = .ok v) :
    ∃ u, (Builtin.len_ ts ty as).run C.P w = .ok u w ∧ Den E ρ v u := by
  simp only [sLen, R.bind_ok] at h
  obtain ⟨d, hd, h⟩ := h
  have hu := under_ok w hd
  split at h
  · cases h
    obtain ⟨_, rfl⟩ := hx
    exact ⟨_, by simp [Builtin.len_, ht, ha, Sem.run_bind, hu]; rfl, by simp [Den, goInt, bytesOf_size, IE.den]⟩
  · cases h
    exact ⟨_, by simp [Builtin.len_, ht, ha, Sem.run_bind, hu]; rfl, by simp [Den, goInt, IE.den]⟩
  · cases h
    cases hx
    exact ⟨_, by simp [Builtin.len_, ht, ha, Sem.run_bind, hu]; rfl, by simp [Den, goInt, IE.den]⟩
  · cases h
    obtain ⟨p, _, hh⟩ := hx
    rcases hh with ⟨rfl, _⟩ | ⟨rfl, _, ⟨q, rfl⟩, _⟩
    · exact ⟨_, by simp [Builtin.len_, ht, ha, Sem.run_bind, hu]; rfl, by simp [Den, goInt, IE.den]⟩
    · exact ⟨_, by simp [Builtin.len_, ht, ha, Sem.run_bind, hu]; rfl, by simp [Den, goInt, IE.den]⟩
  · cases h
    obtain ⟨_, _, _, h0, av, c, rfl, _⟩ := hx
    exact ⟨_, by simp [Builtin.len_, ht, ha, Sem.run_bind, hu]; rfl, by simp only [Den, goInt]; first | rw [Int.max_eq_left h0] | rw [Int.toNat_of_nonneg h0]⟩
  · cases h
theorem evB_ok (hA : C.A.Holds E.I) {b : Builtin} {ts : Array TypeId} {ty : TypeId} {l : List SV} {as : Array Value} {v : SV} {cs : Array Bool} (hl : DenL E ρ l as.toList) (h : evB C b ts l = .ok v) :
    ∃ u, (builtin b ts ty cs as).run C.P w = .ok (.value u) w ∧ Den E ρ v u := by
  unfold evB at h
  split at h
  · simp only [R.bind_ok, ofOpt_ok] at h
    obtain ⟨t, ht, h⟩ := h
    obtain ⟨a, ha, hx⟩ := DenL.one hl
    obtain ⟨u, h1, h2⟩ := sLen_ok (ty := ty) w ht (as := as) (a := a) (by rw [← Array.getElem?_toList, ha]; rfl) hx h
    exact ⟨u, by simp [builtin, h1], h2⟩
  · obtain ⟨a, as', ha, has, e⟩ := hl
    obtain ⟨u, h1, h2⟩ := sMin_ok w hA true ha has h
    refine ⟨u, ?_, h2⟩
    simp only [if_true] at h1
    simp [builtin, Builtin.min_, e, h1]
  · obtain ⟨a, as', ha, has, e⟩ := hl
    obtain ⟨u, h1, h2⟩ := sMin_ok w hA false ha has h
    refine ⟨u, ?_, h2⟩
    simp only [Bool.false_eq_true, if_false] at h1
    simp [builtin, Builtin.max_, e, h1]
  · cases h
theorem evQ_ok (hA : C.A.Holds E.I) {e : Operand → R SV} {ε : Operand → Value} (he : ∀ x v, e x = .ok v → Den E ρ v (ε x)) {o : Oper} {v : SV} (h : evQ C e o.op = .ok v) :
    ∃ u, (execOp ε o).run C.P w = .ok (.value u) w ∧ Den E ρ v u := by
  unfold evQ at h
  unfold execOp
  split at h
  case h_1 x ho => simp only [ho]; exact ⟨_, rfl, he _ _ h⟩
  case h_2 x ho => simp only [ho]; exact ⟨_, rfl, he _ _ h⟩
  case h_3 c a b ho =>
    simp only [ho]
    simp only [R.bind_ok] at h
    obtain ⟨y, hy, h⟩ := h
    split at h
    · have hc : ε c = _ := he _ _ hy
      rename_i t
      cases t
      · simp only [Bool.false_eq_true, if_false] at h; exact ⟨_, by simp [hc, asBool], he _ _ h⟩
      · simp only [if_true] at h; exact ⟨_, by simp [hc, asBool], he _ _ h⟩
    · cases h
  case h_4 x ho =>
    simp only [ho]
    simp only [R.bind_ok] at h
    obtain ⟨y, hy, h⟩ := h
    have hx := he _ _ hy
    split at h
    · cases h
      have hx' := hx
      obtain ⟨p, hp, e1⟩ := hx
      exact ⟨_, by rw [e1]; rfl, e1 ▸ hx'⟩
    · cases h
      have hx' := hx
      obtain ⟨b, o, e1, _⟩ := hx
      exact ⟨_, by rw [e1]; rfl, e1 ▸ hx'⟩
    · cases h
      have hx' := hx
      obtain ⟨q, b, o, _, e1, _⟩ := hx
      exact ⟨_, by rw [e1]; rfl, e1 ▸ hx'⟩
    · cases h
      have hx' := hx
      obtain ⟨p, q, _, _, e1⟩ := hx
      exact ⟨_, by rw [e1]; rfl, e1 ▸ hx'⟩
    · cases h
      have hx' := hx
      obtain ⟨p, hp, e1⟩ := hx
      exact ⟨_, by rw [e1]; rfl, e1 ▸ hx'⟩
    · cases h
  case h_5 op t x ho =>
    simp only [ho]
    simp only [R.bind_ok] at h
    obtain ⟨y, hy, h⟩ := h
    have hx := he _ _ hy
    split at h
    · cases h
      have e1 : ε x = _ := hx
      exact ⟨_, by simp only [Sem.run_bind, e1, Op.unary]; rfl, rfl⟩
    · cases h
      have e1 : ε x = _ := hx
      refine ⟨_, by simp only [Sem.run_bind, e1, Op.unary, Op.intArith]; rfl, ?_⟩
      simp [Den, binI_ok hA, arith, IE.den]
    · cases h
  case h_6 op t x y t2 ho =>
    simp only [ho]
    simp only [R.bind_ok] at h
    obtain ⟨a, ha, b, hb, h⟩ := h
    obtain ⟨u, h1, h2⟩ := sBin_ok w hA x y (he _ _ ha) (he _ _ hb) h
    exact ⟨u, by rw [Sem.run_bind, h1]; rfl, h2⟩
  case h_7 s d x ho =>
    simp only [ho]
    simp only [R.bind_ok] at h
    obtain ⟨su, hsu, du, hdu, y, hy, h⟩ := h
    have hx := he _ _ hy
    have g1 := under_ok w hsu
    have g2 := under_ok w hdu
    split at h
    · cases h
      have e1 : ε x = _ := hx
      refine ⟨_, by simp [Sem.run_bind, convert, g1, g2, e1, Conv.intToInt]; rfl, ?_⟩
      simp [Den, convI_ok hA]
    · cases h
      have hx' := hx
      obtain ⟨_, e1⟩ := hx
      exact ⟨_, by simp [Sem.run_bind, convert, g1, g2, e1], hx'.1, rfl⟩
    · cases h
  case h_8 t x ho =>
    simp only [ho]
    simp only [R.bind_ok] at h
    obtain ⟨d, hd, h⟩ := h
    have g1 := under_ok w hd
    split at h
    · cases h
    · rename_i hni
      simp only [R.bind_ok] at h
      obtain ⟨y, hy, h⟩ := h
      cases h
      refine ⟨.iface t (ε x), ?_, _, he _ _ hy, rfl⟩
      simp only [Sem.run_bind, Instr.makeInterface, g1, Result.andThen_ok]
      cases d <;> first | exact absurd rfl (hni _) | rfl
  case h_9 fn first cap ho =>
    simp only [ho]
    split at h
    · simp only [R.bind_ok] at h
      obtain ⟨a, ha, b, hb, h⟩ := h
      cases h
      refine ⟨_, by simp only [Sem.run_bind, Instr.makeFunc]; rfl, _, _, mapR_ok he ha, mapR_ok he hb, ?_⟩
      congr 1 <;> (apply Array.ext'; simp)
    · cases h
  case h_10 t x lo hi mx ho =>
    simp only [ho]
    split at h
    · obtain ⟨u, h1, h2⟩ := sSlice_ok w hA he h
      exact ⟨u, by simp [h1], h2⟩
    · obtain ⟨u, h1, h2⟩ := sSlice3_ok w hA he h
      exact ⟨u, by simp [h1], h2⟩
    · cases h
  case h_11 s x f ho =>
    simp only [ho]
    simp only [R.bind_ok] at h
    obtain ⟨d, hd, h⟩ := h
    have g1 := under_ok w hd
    split at h
    · simp only [R.bind_ok, ofOpt_ok] at h
      obtain ⟨fl, hfl, n, hn, h⟩ := h
      split at h
      · cases h
      · rename_i hn0
        simp only [R.bind_ok] at h
        obtain ⟨y, hy, h⟩ := h
        have hx := he _ _ hy
        split at h
        · cases h
          obtain ⟨p, hp, e1⟩ := hx
          refine ⟨_, by simp [Sem.run_bind, Instr.fieldAt, g1, hfl, e1, Instr.sureAddr, fieldPlace, size_ok w hn, hn0, add_plain]; rfl, p, hp, ?_⟩
          simp [Nat.add_assoc]
        · cases h
          obtain ⟨b, o, e1, hk⟩ := hx
          refine ⟨_, by simp [Sem.run_bind, Instr.fieldAt, g1, hfl, e1, Instr.sureAddr, fieldPlace, size_ok w hn, hn0, add_plain]; rfl, b, o, ?_, hk⟩
          simp [Nat.add_assoc]
        · cases h
          obtain ⟨q, b, o, hp, e1, hk⟩ := hx
          refine ⟨_, by simp [Sem.run_bind, Instr.fieldAt, g1, hfl, e1, Instr.sureAddr, fieldPlace, size_ok w hn, hn0, add_plain]; rfl, q, b, o, hp, ?_, hk⟩
          simp [Nat.add_assoc]
        · cases h
    · cases h
  case h_12 t x f ho =>
    simp only [ho]
    simp only [R.bind_ok] at h
    obtain ⟨d, hd, h⟩ := h
    have g1 := under_ok w hd
    split at h
    · simp only [R.bind_ok, ofOpt_ok] at h
      obtain ⟨fl, hfl, y, hy, h⟩ := h
      have hx := he _ _ hy
      split at h
      · obtain ⟨as, has, e1⟩ := hx
        obtain ⟨u, h1, h2⟩ := sPart_ok (C := C) w (cs := as.toArray) (by simpa using has) h
        exact ⟨u, by simp [Sem.run_bind, Instr.field, g1, hfl, e1, asAgg, h1], h2⟩
      · cases h
    · cases h
  case h_13 t x ix ho =>
    simp only [ho]
    simp only [R.bind_ok] at h
    obtain ⟨d, hd, i, hi, y, hy, h⟩ := h
    have g1 := under_ok w hd
    have hx := he _ _ hy
    have hix := he _ _ hi
    split at h
    · rename_i n el k ie s off
      simp only [R.bind_ok] at h
      obtain ⟨i, hi, z, hz, h⟩ := h
      split at h
      · rename_i hr
        cases h
        obtain ⟨p, hp, e1⟩ := hx
        have e2 : ε ix = .int k i := (concI_ok hA hi) ▸ hix
        refine ⟨_, by simp [Sem.run_bind, Instr.indexAt, g1, e1, e2, asIntOf, Instr.sureAddr, hr, size_ok w hz, add_plain]; rfl, p, hp, ?_⟩
        simp [Nat.add_assoc]
      · cases h
    · rename_i el k ie s off n cap sz
      simp only [R.bind_ok] at h
      obtain ⟨i, hi, z, hz, h⟩ := h
      split at h
      · rename_i hr
        cases h
        obtain ⟨p, hp, hh⟩ := hx
        have e2 : ε ix = .int k i := (concI_ok hA hi) ▸ hix
        rcases hh with ⟨e1, _⟩ | ⟨rfl, _⟩
        · refine ⟨_, by simp [Sem.run_bind, Instr.indexAt, g1, e1, e2, asIntOf, hr, size_ok w hz, add_plain]; rfl, p, hp, ?_⟩
          simp [Nat.add_assoc]
        · exact absurd hr (by omega)
      · cases h
    · rename_i el k ie s len sz foc els
      simp only [R.bind_ok] at h
      obtain ⟨z, hz, r1, hr1, r2, hr2, h⟩ := h
      split at h
      case isFalse => cases h
      rename_i hr
      simp only [Bool.and_eq_true, beq_iff_eq] at hr
      obtain ⟨⟨rfl, rfl⟩, rfl⟩ := hr
      have b1 : ie.den E.I ≥ 0 := of_decide_eq_true (cmpI_ok hA hr1)
      have b2 : ie.den E.I < len.den E.I := of_decide_eq_true (cmpI_ok hA hr2)
      obtain ⟨q, hq, _, h0, av, c, e1, k2, k1⟩ := hx
      have e2 : ε ix = .int k (ie.den E.I) := hix
      have e3 : (ie.den E.I).toNat < (len.den E.I).toNat := by omega
      have e4 : 0 ≤ ie.den E.I ∧ ie.den E.I < max (len.den E.I) 0 := by omega
      unfold aslAt at h
      split at h
      · rename_i i l hl
        cases h
        obtain ⟨b, a, rfl, hk⟩ := k1 _ (belsAt_ok hl) b1 b2
        refine ⟨_, by simp [Sem.run_bind, Instr.indexAt, g1, e1, e2, asIntOf, e4.1, e4.2, size_ok w hz, add_plain]; rfl, q, b, _, hq, ?_, hk⟩
        simp
      · split at h
        · rename_i s hs
          cases h
          obtain ⟨p, a, hp, rfl, ho⟩ := k2 _ (focAt_ok hs)
          refine ⟨_, by simp [Sem.run_bind, Instr.indexAt, g1, e1, e2, asIntOf, e4.1, e4.2, size_ok w hz, add_plain]; rfl, p, hp, ?_⟩
          simp [ho]
        · cases h
    · rename_i n el k ie l off
      simp only [R.bind_ok] at h
      obtain ⟨i, hi, z, hz, h⟩ := h
      split at h
      · rename_i hr
        cases h
        obtain ⟨b, o, e1, hk⟩ := hx
        have e2 : ε ix = .int k i := (concI_ok hA hi) ▸ hix
        refine ⟨_, by simp [Sem.run_bind, Instr.indexAt, g1, e1, e2, asIntOf, Instr.sureAddr, hr, size_ok w hz, add_plain]; rfl, b, o, ?_, hk⟩
        simp [Nat.add_assoc]
      · cases h
    · rename_i n el k ie s j l off
      simp only [R.bind_ok] at h
      obtain ⟨i, hi, z, hz, h⟩ := h
      split at h
      · rename_i hr
        cases h
        obtain ⟨q, b, o, hp, e1, hk⟩ := hx
        have e2 : ε ix = .int k i := (concI_ok hA hi) ▸ hix
        refine ⟨_, by simp [Sem.run_bind, Instr.indexAt, g1, e1, e2, asIntOf, Instr.sureAddr, hr, size_ok w hz, add_plain]; rfl, q, b, o, hp, ?_, hk⟩
        simp [Nat.add_assoc]
      · cases h
    · cases h
  case h_14 t x ix ho =>
    simp only [ho]
    simp only [R.bind_ok] at h
    obtain ⟨d, hd, i, hi, y, hy, h⟩ := h
    have g1 := under_ok w hd
    have hx := he _ _ hy
    have hix := he _ _ hi
    split at h
    · rename_i n el k ie l
      simp only [R.bind_ok] at h
      obtain ⟨i, hi, z, hz, h⟩ := h
      split at h
      · rename_i hr
        obtain ⟨as, has, e1⟩ := hx
        have e2 : ε ix = .int k i := (concI_ok hA hi) ▸ hix
        obtain ⟨u, h1, h2⟩ := sPart_ok (C := C) w (cs := as.toArray) (by simpa using has) h
        exact ⟨u, by simp [Sem.run_bind, Instr.index, g1, e1, e2, asIntOf, hr, size_ok w hz, h1], h2⟩
      · cases h
    · rename_i k i s
      split at h
      · rename_i hr
        simp only [R.bind_ok, ofOpt_ok] at h
        obtain ⟨b, hb, h⟩ := h
        cases h
        obtain ⟨hs, e1⟩ := hx
        have e2 : ε ix = .int k i := hix
        have hb2 : (bytesOf s)[i.toNat]? = some (UInt8.ofNat b) := by
          have h0 : i.toNat < s.length := (List.getElem?_eq_some_iff.1 hb).1
          have h1 : s[i.toNat] = b := (List.getElem?_eq_some_iff.1 hb).2
          rw [getElem?_pos (bytesOf s) i.toNat (by simpa [bytesOf_size] using h0)]
          congr 1
          simp [bytesOf, ByteArray.getElem_eq_getElem_data, h1]
        have hlt : b < 256 := by
          have := List.all_eq_true.1 hs b (List.mem_of_getElem? hb)
          simpa using this
        refine ⟨.int .u8 b, ?_, rfl⟩
        simp [Sem.run_bind, Instr.index, g1, e1, e2, asIntOf, hr, hb2]
        omega
      · cases h
    · cases h
  case h_15 x i ho =>
    simp only [ho]
    simp only [R.bind_ok] at h
    obtain ⟨y, hy, h⟩ := h
    have hx := he _ _ hy
    split at h
    · obtain ⟨as, has, e1⟩ := hx
      obtain ⟨u, hu, hd⟩ := has.get (ofOpt_ok.1 h)
      exact ⟨u, by simp [Instr.extract, e1, hu], hd⟩
    · cases h
  case h_16 t parts ho =>
    simp only [ho]
    simp only [R.bind_ok] at h
    obtain ⟨ps, hps, l, hl, h⟩ := h
    cases h
    obtain ⟨us, h1, h2⟩ := sBuild_ok (C := C) w (qs := parts.map fun (i, x) => (i, ε x)) (by simpa using mapP_ok he hps) hl
    exact ⟨_, by rw [Sem.run_bind, h1]; rfl, us, h2, rfl⟩
  case h_17 c ho =>
    simp only [ho]
    split at h
    · rename_i b hb
      simp only [R.bind_ok] at h
      obtain ⟨args, hargs, h⟩ := h
      obtain ⟨u, h1, h2⟩ := evB_ok (C := C) (ty := o.type) (as := c.args.map ε) (cs := c.args.map fun | .const _ => true | _ => false) w hA (by simpa using mapR_ok he hargs) h
      exact ⟨u, by simp [resolve, hb, invoke]; exact h1, h2⟩
    · cases h
  case h_18 => cases h
end
end Go.Proofs.YtfiangiajhdhcaaDoor
