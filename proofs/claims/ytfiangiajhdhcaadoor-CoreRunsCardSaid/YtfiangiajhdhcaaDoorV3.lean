/- The reckoner: a symbolic evaluator of a program, proved sound; one of its texts. No condition. -/
import Derived.Test.YtfiangiajhdhcaaDoorV2
import Derived.Great.BuildSlice
namespace Go.Proofs.YtfiangiajhdhcaaDoor
open Go.RowKit
set_option linter.unusedVariables false
set_option maxRecDepth 100000

noncomputable def SV.isTup : SV → Bool
  | .tup _ => true
  | .any => true
  | _ => false
theorem SV.not_tup {v : SV} (h : v.isTup = false) : ∀ l, v ≠ .tup l := by rintro l rfl; cases h
theorem SV.not_any {v : SV} (h : v.isTup = false) : v ≠ .any := by rintro rfl; cases h
/-! ### Operations that leave the world as it is -/
noncomputable def sFill (place : Nat → Option (Nat × Nat)) : List SV → List (Nat × SV) → R (List SV)
  | cs, [] => .ok cs
  | cs, (i, v) :: rest => match place i with
    | none => .no "fill: place"
    | some (off, size) => if v.isTup = false ∧ v.cells.length = size ∧ off + v.cells.length ≤ cs.length then sFill place (cs.take off ++ v.cells ++ cs.drop (off + v.cells.length)) rest else .no "fill: size"
noncomputable def DenP (E : Val) (ρ : Rho) : List (Nat × SV) → List (Nat × Value) → Prop
  | [], us => us = []
  | (i, v) :: l, us => ∃ u t, Den E ρ v u ∧ DenP E ρ l t ∧ us = (i, u) :: t
theorem set_fold : ∀ (vs : List Value) (k off : Nat) (cs : Array Value), off + k + vs.length ≤ cs.size →
    ((vs.zipIdx k).foldl (fun cs p => cs.setIfInBounds (off + p.2) p.1) cs).toList = cs.toList.take (off + k) ++ vs ++ cs.toList.drop (off + k + vs.length)
  | [], k, off, cs, _ => by simp
  | v :: vs, k, off, cs, h => by
    simp only [List.length_cons] at h
    rw [List.zipIdx_cons, List.foldl_cons, set_fold vs (k + 1) off _ (by simp; omega)]
    have hl : off + k < cs.toList.length := by simp; omega
    simp only [Array.toList_setIfInBounds, List.length_cons]
    have e1 : (cs.toList.set (off + k) v).take (off + (k + 1)) = cs.toList.take (off + k) ++ [v] := by
      rw [show off + (k + 1) = off + k + 1 by omega, List.take_succ_eq_append_getElem (by simpa using hl)]
      simp [List.take_set_of_le]
    have e2 : (cs.toList.set (off + k) v).drop (off + (k + 1) + vs.length) = cs.toList.drop (off + k + (vs.length + 1)) := by
      rw [List.drop_set_of_lt (by omega)]
      congr 1; omega
    rw [e1, e2]
    simp
section
variable {C : Ctx} {E : Val} {ρ : Rho} (w : World)
theorem sFill_ok {place : Nat → Option (Nat × Nat)} : ∀ {ps : List (Nat × SV)} {qs : List (Nat × Value)} {cs cs' : List SV} {us : List Value}, DenL E ρ cs us → DenP E ρ ps qs → sFill place cs ps = .ok cs' →
    ∃ us', Instr.fill place us.toArray qs = some us'.toArray ∧ DenL E ρ cs' us'
  | [], qs, cs, cs', us, hc, hp, h => by
    cases hp
    simp [sFill] at h
    subst h
    exact ⟨us, rfl, hc⟩
  | (i, v) :: ps, qs, cs, cs', us, hc, hp, h => by
    obtain ⟨u, t, hv, ht, rfl⟩ := hp
    rw [sFill] at h
    split at h
    · cases h
    · rename_i off size hpl
      split at h
      · rename_i hs
        obtain ⟨hnt, hs1, hs2⟩ := hs
        have hcells := Den.cells hv (SV.not_tup hnt) (SV.not_any hnt)
        have hlen := hcells.length
        have hclen := hc.length
        have hl : u.cells.size = v.cells.length := by simpa using hlen
        have key := set_fold u.cells.toList 0 off us.toArray (by simp; omega)
        obtain ⟨us', h1, h2⟩ := sFill_ok (us := us.take off ++ u.cells.toList ++ us.drop (off + v.cells.length)) ((hc.take.append hcells).append hc.drop) ht h
        refine ⟨us', ?_, h2⟩
        simp only [Instr.fill, hpl]
        rw [if_neg (by simp; omega)]
        rw [← h1]
        congr 1
        apply Array.ext'
        rw [← Array.foldl_toList, Array.toList_zipIdx]
        simp only [Nat.add_zero] at key
        rw [key]
        simp [hl]
      · cases h
theorem bytesOf_size (s : List Nat) : (bytesOf s).size = s.length := by simp [bytesOf, ByteArray.size]
theorem bytesOf_append (a b : List Nat) : bytesOf a ++ bytesOf b = bytesOf (a ++ b) := by
  apply ByteArray.ext
  simp [bytesOf]
noncomputable def sBuild (C : Ctx) (t : TypeId) (ps : List (Nat × SV)) : R (List SV) :=
  match C.P.info? t, C.P.underlying t with
  | some it, some (.array _ e) =>
    match it.zero, C.P.info? e with
    | some z, some ie => (mapR ofCell z.cells.toList).bind fun zc => sFill (fun i => some (i * ie.size, ie.size)) zc ps
    | _, _ => .no "build: array"
  | some it, some (.struct fields) =>
    match it.zero, fields.toList.mapM (fun f => (C.P.info? f.type).map fun i => (f.offset, i.size)) with
    | some z, some places => (mapR ofCell z.cells.toList).bind fun zc => sFill (places.toArray[·]?) zc ps
    | _, _ => .no "build: struct"
  | _, _ => .no "build"
theorem sBuild_ok {t : TypeId} {ps : List (Nat × SV)} {qs : Array (Nat × Value)} {l : List SV} (hp : DenP E ρ ps qs.toList) (h : sBuild C t ps = .ok l) :
    ∃ us, (Instr.build t qs).run C.P w = .ok (.agg us.toArray) w ∧ DenL E ρ l us := by
  unfold sBuild at h
  split at h
  · rename_i it n e hit hu
    split at h
    · rename_i z ie hz hie
      simp only [R.bind_ok] at h
      obtain ⟨zc, hzc, h⟩ := h
      obtain ⟨us', h1, h2⟩ := sFill_ok (E := E) (ρ := ρ) (mapR_ofCell_ok hzc) hp h
      refine ⟨us', run_build w t qs _ ?_, h2⟩
      simpa [Program.built, hit, hu, hz, hie] using h1
    · cases h
  · rename_i it fields hit hu
    split at h
    · rename_i z places hz hpl
      simp only [R.bind_ok] at h
      obtain ⟨zc, hzc, h⟩ := h
      obtain ⟨us', h1, h2⟩ := sFill_ok (E := E) (ρ := ρ) (mapR_ofCell_ok hzc) hp h
      refine ⟨us', run_build w t qs _ ?_, h2⟩
      simpa [Program.built, hit, hu, hz, hpl] using h1
    · cases h
  · cases h
/-- Bits of two numbers. -/
noncomputable def bitsD (op : BinOp) (k : IntKind) (x y : Int) : R Int :=
  let a := BitVec.ofInt k.bits x
  let b := BitVec.ofInt k.bits y
  match op with
  | .and => .ok (k.wrap (a &&& b).toNat)
  | .or => .ok (k.wrap (a ||| b).toNat)
  | .xor => .ok (k.wrap (a ^^^ b).toNat)
  | .andNot => .ok (k.wrap (a &&& ~~~b).toNat)
  | _ => .no "bits"
noncomputable def shiftD (op : BinOp) (k : IntKind) (x y : Int) : R Int :=
  if y < 0 then .no "shift" else match op with
  | .shl => .ok (k.wrap (x * 2 ^ (min y.toNat k.bits)))
  | .shr => .ok (x.fdiv (2 ^ (min y.toNat k.bits)))
  | _ => .no "shift"
/-- Is it a value whose comparison goes by the type alone? -/
noncomputable def SV.able : SV → Bool
  | .bool _ | .nptr | .ptr .. | .nslice | .slice .. | .nfunc | .func .. | .yield _ | .niface | .iface .. => true
  | _ => false
noncomputable def SV.isNi : SV → Bool
  | .niface => true
  | _ => false
theorem able_eql {x y : SV} {a b : Value} {t : TypeId} {p q : Operand} (hx : Den E ρ x a) (hy : Den E ρ y b) (h : x.able = true) (hn : x.isNi = true → ∃ t v, y = .iface t v) (op : BinOp) (ho : op = .eql ∨ op = .neq) {r : Bool}
    (he : (Op.equal t a b).run C.P w = .ok r w) : (do eqGuard op t p q a b; binOp op t a b : Sem Value).run C.P w = .ok (.bool (if op = .eql then r else !r)) w := by
  cases x <;> simp only [SV.able, Bool.false_eq_true] at h
  case bool => cases hx; rcases ho with rfl | rfl <;> simp [eqGuard, binOp, he]
  case nptr => cases hx; rcases ho with rfl | rfl <;> simp [eqGuard, binOp, he]
  case ptr => obtain ⟨_, _, rfl⟩ := hx; rcases ho with rfl | rfl <;> simp [eqGuard, binOp, he]
  case nslice => cases hx; rcases ho with rfl | rfl <;> simp [eqGuard, binOp, he]
  case slice =>
    obtain ⟨_, _, hh⟩ := hx
    rcases hh with ⟨rfl, _⟩ | ⟨_, _, ⟨c, rfl⟩, _⟩ <;> rcases ho with rfl | rfl <;> simp [eqGuard, binOp, he]
  case nfunc => cases hx; rcases ho with rfl | rfl <;> simp [eqGuard, binOp, he]
  case func => obtain ⟨_, _, _, _, rfl⟩ := hx; rcases ho with rfl | rfl <;> simp [eqGuard, binOp, he]
  case yield => obtain ⟨_, _, rfl⟩ := hx; rcases ho with rfl | rfl <;> simp [eqGuard, binOp, he]
  case niface =>
    cases hx
    have hb : b ≠ .nilIface := by
      obtain ⟨t', v', rfl⟩ := hn rfl
      obtain ⟨_, _, rfl⟩ := hy
      simp
    have e : ∀ op, eqGuard op t p q .nilIface b = pure () := by
      intro op
      cases b <;> first | exact absurd rfl hb | (cases op <;> rfl)
    rcases ho with rfl | rfl <;> simp [e, binOp, he]
  case iface => obtain ⟨_, _, rfl⟩ := hx; rcases ho with rfl | rfl <;> simp [eqGuard, binOp, he]
theorem sEq_ni : ∀ {d : Nat} {t : TypeId} {y : SV} {r : Bool}, sEq C d t .niface y = .ok r → ∃ t v, y = .iface t v
  | 0, t, y, r, h => by simp [sEq] at h
  | d + 1, t, y, r, h => by
    simp only [sEq, R.bind_ok] at h
    obtain ⟨u, _, h⟩ := h
    split at h <;> first | exact ⟨_, _, rfl⟩ | (exfalso; simp_all; done) | cases h
theorem u8s_beq (a b : List UInt8) : (a == b) = decide (a = b) := by
  by_cases h : a = b
  · subst h; simp
  · rw [beq_eq_false_iff_ne.2 h]; simp [h]
/-- Texts in which numbers stand: put together, and compared. -/
noncomputable def sTxt (C : Ctx) (op : BinOp) (x y : SV) : R SV :=
  (ofOpt x.chars "bin: left").bind fun a => (ofOpt y.chars "bin: right").bind fun b => match op with
    | .add => (ofOpt (chMost C.A a) "concat: number").bind fun n => (ofOpt (chMost C.A b) "concat: number").bind fun m => if n + m ≤ 1000000 then .ok (mkTxt (a ++ b)) else .no "concat"
    | .eql => (chEq C.A a b).bind fun r => .ok (.bool r)
    | .neq => (chEq C.A a b).bind fun r => .ok (.bool (!r))
    | _ => .no "bin: text"
theorem sTxt_ok (hA : C.A.Holds E.I) {op : BinOp} {t : TypeId} {x y v : SV} {a b : Value} (p q : Operand) (hx : Den E ρ x a) (hy : Den E ρ y b) (h : sTxt C op x y = .ok v) :
    ∃ u, (do eqGuard op t p q a b; binOp op t a b : Sem Value).run C.P w = .ok u w ∧ Den E ρ v u := by
  simp only [sTxt, R.bind_ok, ofOpt_ok] at h
  obtain ⟨l, hl, m, hm, h⟩ := h
  obtain ⟨h1, rfl⟩ := SV.chars_ok hx hl
  obtain ⟨h2, rfl⟩ := SV.chars_ok hy hm
  split at h
  · simp only [R.bind_ok, ofOpt_ok] at h
    obtain ⟨i, hi, j, hj, h⟩ := h
    split at h
    · rename_i hij
      cases h
      have b1 := chMost_ok hA hi
      have b2 := chMost_ok hA hj
      refine ⟨.string ⟨(chDen E.I (l ++ m)).toArray⟩, ?_, mkTxt_ok (by rw [chWf_append, h1, h2]; rfl)⟩
      have hs : ¬ (((ByteArray.mk (chDen E.I l).toArray).size + (ByteArray.mk (chDen E.I m).toArray).size : Nat) : Int) > IntKind.i64.max := by
        have e1 : (ByteArray.mk (chDen E.I l).toArray).size = (chDen E.I l).length := by simp [ByteArray.size]
        have e2 : (ByteArray.mk (chDen E.I m).toArray).size = (chDen E.I m).length := by simp [ByteArray.size]
        have e3 : IntKind.i64.max = 9223372036854775807 := by decide
        rw [e1, e2, e3]; omega
      have e : ByteArray.mk (chDen E.I l).toArray ++ ByteArray.mk (chDen E.I m).toArray = ByteArray.mk (chDen E.I (l ++ m)).toArray := by
        rw [chDen_append]; apply ByteArray.ext; simp
      simp only [eqGuard, binOp, Sem.run_bind, Op.stringOp, hs, if_false, e]
      rfl
    · cases h
  · simp only [R.bind_ok] at h
    obtain ⟨r, hr, h⟩ := h
    cases h
    exact ⟨_, by simp [eqGuard, binOp, Op.stringOp]; rfl, by have e := chEq_ok hA h1 h2 hr; show Value.bool _ = Value.bool _; rw [← e, u8s_beq]⟩
  · simp only [R.bind_ok] at h
    obtain ⟨r, hr, h⟩ := h
    cases h
    exact ⟨_, by simp [eqGuard, binOp, Op.stringOp]; rfl, by have e := chEq_ok hA h1 h2 hr; show Value.bool _ = Value.bool _; rw [← e, u8s_beq]⟩
  · cases h
noncomputable def sBin (C : Ctx) (op : BinOp) (t : TypeId) (x y : SV) : R SV :=
  match op, x, y with
  | .shl, .int k (.lit a), .int _ (.lit b) => (shiftD .shl k a b).bind fun n => .ok (.int k (.lit n))
  | .shr, .int k (.lit a), .int _ (.lit b) => (shiftD .shr k a b).bind fun n => .ok (.int k (.lit n))
  | op, .int k a, .int k' b =>
    if k = k' then match op, a, b with
      | .add, a, b => .ok (.int k (binI C.A .add k a b))
      | .sub, a, b => .ok (.int k (binI C.A .sub k a b))
      | .mul, a, b => .ok (.int k (binI C.A .mul k a b))
      | .quo, a, .lit d => if d = 0 then .no "quo" else .ok (.int k (binI C.A .quo k a (.lit d)))
      | .rem, a, .lit d => if d = 0 then .no "rem" else .ok (.int k (binI C.A .rem k a (.lit d)))
      | .and, .lit a, .lit b => (bitsD .and k a b).bind fun n => .ok (.int k (.lit n))
      | .or, .lit a, .lit b => (bitsD .or k a b).bind fun n => .ok (.int k (.lit n))
      | .xor, .lit a, .lit b => (bitsD .xor k a b).bind fun n => .ok (.int k (.lit n))
      | .andNot, .lit a, .lit b => (bitsD .andNot k a b).bind fun n => .ok (.int k (.lit n))
      | .eql, a, b => (cmpI C.A .eql a b).bind fun r => .ok (.bool r)
      | .neq, a, b => (cmpI C.A .neq a b).bind fun r => .ok (.bool r)
      | .lss, a, b => (cmpI C.A .lss a b).bind fun r => .ok (.bool r)
      | .leq, a, b => (cmpI C.A .leq a b).bind fun r => .ok (.bool r)
      | .gtr, a, b => (cmpI C.A .gtr a b).bind fun r => .ok (.bool r)
      | .geq, a, b => (cmpI C.A .geq a b).bind fun r => .ok (.bool r)
      | _, _, _ => .no "bin: ints"
    else .no "bin: kinds"
  | .add, .str a, .str b => if ((a.length + b.length : Nat) : Int) > IntKind.i64.max then .no "concat" else .ok (.str (a ++ b))
  | .eql, .str a, .str b => .ok (.bool (a == b))
  | .neq, .str a, .str b => .ok (.bool (!(a == b)))
  | .eql, .agg a, .agg b => if C.P.eqGuardType C.P.depth t then .no "eq: guard" else (sEq C Op.maxDepth t (.agg a) (.agg b)).bind fun r => .ok (.bool r)
  | .neq, .agg a, .agg b => if C.P.eqGuardType C.P.depth t then .no "eq: guard" else (sEq C Op.maxDepth t (.agg a) (.agg b)).bind fun r => .ok (.bool (!r))
  | .eql, .niface, .niface => .no "eq: two nils"
  | .neq, .niface, .niface => .no "eq: two nils"
  | .eql, x, y => if x.able then (sEq C Op.maxDepth t x y).bind fun r => .ok (.bool r) else sTxt C .eql x y
  | .neq, x, y => if x.able then (sEq C Op.maxDepth t x y).bind fun r => .ok (.bool (!r)) else sTxt C .neq x y
  | op, x, y => sTxt C op x y
theorem bitsD_ok {op : BinOp} {k : IntKind} {x y n : Int} (h : bitsD op k x y = .ok n) : (Op.intBits op k x y).run C.P w = .ok (.int k n) w := by
  cases op <;> simp only [bitsD] at h <;> first | (cases h; simp [Op.intBits]; done) | cases h
theorem shiftD_ok {op : BinOp} {k l : IntKind} {x y n : Int} (h : shiftD op k x y = .ok n) : (Op.shift op k x l y).run C.P w = .ok (.int k n) w := by
  unfold shiftD at h
  split at h
  · cases h
  · rename_i hy
    cases op <;> simp only [] at h <;> first | (cases h; simp [Op.shift, hy]; done) | cases h
theorem sBin_ok (hA : C.A.Holds E.I) {op : BinOp} {t : TypeId} {x y v : SV} {a b : Value} (p q : Operand) (hx : Den E ρ x a) (hy : Den E ρ y b) (h : sBin C op t x y = .ok v) :
    ∃ u, (do eqGuard op t p q a b; binOp op t a b : Sem Value).run C.P w = .ok u w ∧ Den E ρ v u := by
  unfold sBin at h
  split at h
  case h_1 =>
    cases hx; cases hy
    simp only [R.bind_ok] at h
    obtain ⟨n, hn, h⟩ := h
    cases h
    exact ⟨.int _ n, by simpa [eqGuard, binOp, Sem.run_bind, IE.den] using shiftD_ok w hn, rfl⟩
  case h_2 =>
    cases hx; cases hy
    simp only [R.bind_ok] at h
    obtain ⟨n, hn, h⟩ := h
    cases h
    exact ⟨.int _ n, by simpa [eqGuard, binOp, Sem.run_bind, IE.den] using shiftD_ok w hn, rfl⟩
  case h_3 =>
    cases hx; cases hy
    split at h
    · rename_i hk
      subst hk
      split at h
      case h_1 => cases h; exact ⟨_, by simp [eqGuard, binOp, Op.intArith]; rfl, by simp [Den, binI_ok hA, arith]⟩
      case h_2 => cases h; exact ⟨_, by simp [eqGuard, binOp, Op.intArith]; rfl, by simp [Den, binI_ok hA, arith]⟩
      case h_3 => cases h; exact ⟨_, by simp [eqGuard, binOp, Op.intArith]; rfl, by simp [Den, binI_ok hA, arith]⟩
      case h_4 =>
        split at h
        · cases h
        · rename_i hd
          cases h; exact ⟨_, by simp [eqGuard, binOp, Op.intDiv, IE.den, hd]; rfl, by simp [Den, binI_ok hA, arith, IE.den]⟩
      case h_5 =>
        split at h
        · cases h
        · rename_i hd
          cases h; exact ⟨_, by simp [eqGuard, binOp, Op.intDiv, IE.den, hd]; rfl, by simp [Den, binI_ok hA, arith, IE.den]⟩
      case h_16 => cases h
      case h_6 | h_7 | h_8 | h_9 =>
        simp only [R.bind_ok] at h
        obtain ⟨n, hn, h⟩ := h
        cases h
        exact ⟨.int _ n, by simpa [eqGuard, binOp, Sem.run_bind, IE.den] using bitsD_ok w hn, rfl⟩
      all_goals
        simp only [R.bind_ok] at h
        obtain ⟨r, hr, h⟩ := h
        cases h
        have := cmpI_ok hA hr
        subst this
        exact ⟨_, by simp [eqGuard, binOp, Op.intCmp]; rfl, by simp [Den, cmpD]⟩
    · cases h
  case h_4 =>
    obtain ⟨ha, rfl⟩ := hx
    obtain ⟨hb, rfl⟩ := hy
    split at h
    · cases h
    · rename_i u1 u2 hs
      cases h
      refine ⟨.string (bytesOf (u1 ++ u2)), ?_, ?_, rfl⟩
      · simp only [eqGuard, binOp, Sem.run_bind, Op.stringOp, bytesOf_size, hs, if_false, bytesOf_append]
        rfl
      · simp [List.all_append, ha, hb]
  case h_5 =>
    obtain ⟨ha, rfl⟩ := hx
    obtain ⟨hb, rfl⟩ := hy
    cases h
    exact ⟨_, by simp [eqGuard, binOp, Op.stringOp]; rfl, by rw [bytesOf_beq ha hb]; rfl⟩
  case h_6 =>
    obtain ⟨ha, rfl⟩ := hx
    obtain ⟨hb, rfl⟩ := hy
    cases h
    exact ⟨_, by simp [eqGuard, binOp, Op.stringOp]; rfl, by rw [bytesOf_beq ha hb]; rfl⟩
  case h_7 | h_8 =>
    split at h
    · cases h
    · rename_i hg
      simp only [R.bind_ok] at h
      obtain ⟨r, hr, h⟩ := h
      cases h
      have he := sEq_ok w hA _ hx hy hr
      obtain ⟨as, _, rfl⟩ := hx
      obtain ⟨bs, _, rfl⟩ := hy
      exact ⟨_, by simp only [Sem.run_bind, run_eqGuard_agg w _ t p q _ _ (by simpa using hg), Result.andThen_ok, binOp, Op.equal, he]; rfl, rfl⟩
  case h_9 => cases h
  case h_10 => cases h
  case h_11 | h_12 =>
    split at h
    · rename_i hab
      simp only [R.bind_ok] at h
      obtain ⟨r, hr, h⟩ := h
      cases h
      have he := sEq_ok w hA _ hx hy hr
      refine ⟨_, able_eql w hx hy hab (fun hni => ?_) _ (by simp) he, by simp [Den]⟩
      cases x <;> simp only [SV.isNi, Bool.false_eq_true] at hni
      exact sEq_ni hr
    · exact sTxt_ok w hA p q hx hy h
  case h_13 => exact sTxt_ok w hA p q hx hy h
end
end Go.Proofs.YtfiangiajhdhcaaDoor
