/- The reckoner: a symbolic evaluator of a program, proved sound; one of its texts. No condition. -/
import Derived.Test.YtfiangiajhdhcaaDoorV1
import Derived.WalkKit
import Derived.ChangeKeysEq
namespace Go.Proofs.YtfiangiajhdhcaaDoor
open Go.RowKit
set_option linter.unusedVariables false
set_option maxRecDepth 100000

/-- What the reckoner goes by: the program, what is known of letters, how many package variables there are. -/
structure Ctx where
  P : Program
  A : Asm
  G : Nat
namespace Ctx
noncomputable def under (C : Ctx) (t : TypeId) : R TypeDesc := ofOpt (C.P.underlying t) "under"
noncomputable def info (C : Ctx) (t : TypeId) : R TypeInfo := ofOpt (C.P.info? t) "info"
noncomputable def size (C : Ctx) (t : TypeId) : R Nat := (C.info t).bind fun i => .ok i.size
noncomputable def zero (C : Ctx) (t : TypeId) : R (List SV) := (C.info t).bind fun i => (ofOpt i.zero "zero").bind fun z => mapR ofCell z.cells.toList
noncomputable def agg (C : Ctx) (t : TypeId) : R Bool := (C.under t).bind fun d => .ok (match d with | .struct _ | .array _ _ => true | _ => false)
end Ctx
section
variable {C : Ctx} {E : Val} {ρ : Rho} (w : World)
theorem info_ok {t : TypeId} {i : TypeInfo} (h : C.info t = .ok i) : C.P.info? t = some i := ofOpt_ok.1 h
theorem size_ok {t : TypeId} {n : Nat} (h : C.size t = .ok n) : (sizeOf t).run C.P w = .ok n w := by
  simp only [Ctx.size, R.bind_ok] at h
  obtain ⟨i, hi, h⟩ := h
  cases h
  have hi := info_ok hi
  rw [run_sizeOf w hi]
  simp [Program.cellsOf, hi]
theorem under_ok {t : TypeId} {d : TypeDesc} (h : C.under t = .ok d) : (underlying t).run C.P w = .ok d w := run_underlying (ofOpt_ok.1 h) w
theorem agg_ok {t : TypeId} {b : Bool} (h : C.agg t = .ok b) : (isAgg t).run C.P w = .ok b w := by
  simp only [Ctx.agg, R.bind_ok] at h
  obtain ⟨d, hd, h⟩ := h
  cases h
  simp only [isAgg, Sem.run_bind, under_ok w hd, Result.andThen_ok]
  cases d <;> rfl
theorem zero_ok {t : TypeId} {l : List SV} (h : C.zero t = .ok l) : ∃ z, (zeroValue t).run C.P w = .ok z w ∧ DenL E ρ l z.cells.toList := by
  simp only [Ctx.zero, R.bind_ok, ofOpt_ok] at h
  obtain ⟨i, hi, z, hz, h⟩ := h
  refine ⟨z, ?_, mapR_ofCell_ok h⟩
  simp [zeroValue, Sem.run_bind, run_typeInfo w (info_ok hi), hz]
/-- A part of a struct or an array. -/
noncomputable def sPart (C : Ctx) (t : TypeId) (l : List SV) (off : Nat) : R SV :=
  (C.agg t).bind fun b => if b then (C.size t).bind fun n => .ok (.agg ((l.drop off).take n)) else ofOpt l[off]? "part"
theorem sPart_ok {t : TypeId} {l : List SV} {cs : Array Value} {off : Nat} {v : SV} (hl : DenL E ρ l cs.toList) (h : sPart C t l off = .ok v) :
    ∃ u, (part t cs off).run C.P w = .ok u w ∧ Den E ρ v u := by
  simp only [sPart, R.bind_ok] at h
  obtain ⟨b, hb, h⟩ := h
  cases b
  · simp only [Bool.false_eq_true, if_false, ofOpt_ok] at h
    obtain ⟨u, hu, hd⟩ := hl.get h
    refine ⟨u, ?_, hd⟩
    have hu' : cs[off]? = some u := by simpa using hu
    simp [part, Sem.run_bind, agg_ok w hb, hu']
  · simp only [if_true, R.bind_ok] at h
    obtain ⟨n, hn, h⟩ := h
    cases h
    refine ⟨_, by simp [part, Sem.run_bind, agg_ok w hb, size_ok w hn]; rfl, ?_⟩
    refine ⟨_, (hl.drop (n := off)).take (n := n), ?_⟩
    congr 1
    apply Array.ext'
    simp
theorem add_plain (b off n : Nat) : (⟨b, off, none⟩ : Addr).add n = ⟨b, off + n, none⟩ := by
  cases n <;> simp [Addr.add]
end
/-! ### Equal -/
noncomputable def sEqF (C : Ctx) (eq : TypeId → SV → SV → R Bool) (xs ys : List SV) : List Field → R Bool
  | [] => .ok true
  | f :: fs => if f.name = "_" then sEqF C eq xs ys fs else
    (sPart C f.type xs f.offset).bind fun a => (sPart C f.type ys f.offset).bind fun b => (eq f.type a b).bind fun r => if r then sEqF C eq xs ys fs else .ok false
noncomputable def sEqI (C : Ctx) (eq : TypeId → SV → SV → R Bool) (e : TypeId) (s : Nat) (xs ys : List SV) : List Nat → R Bool
  | [] => .ok true
  | i :: is =>
    (sPart C e xs (i * s)).bind fun a => (sPart C e ys (i * s)).bind fun b => (eq e a b).bind fun r => if r then sEqI C eq e s xs ys is else .ok false
noncomputable def sEq (C : Ctx) : Nat → TypeId → SV → SV → R Bool
  | 0, _, _, _ => .no "eq: depth"
  | d + 1, t, x, y => (C.under t).bind fun u => match u, x, y with
    | .bool, .bool a, .bool b => .ok (a == b)
    | .int _, .int k a, .int k' b => if k = k' then cmpI C.A .eql a b else .no "eq: kinds"
    | .string, .str a, .str b => .ok (a == b)
    | .pointer _, .nptr, .nptr => .ok true
    | .pointer _, .nptr, .ptr _ _ => .ok false
    | .pointer _, .ptr _ _, .nptr => .ok false
    | .slice _, .nslice, .nslice => .ok true
    | .slice _, .nslice, .slice .. => .ok false
    | .slice _, .slice .., .nslice => .ok false
    | .func .., .nfunc, .nfunc => .ok true
    | .func .., .func .., .nfunc => .ok false
    | .func .., .yield _, .nfunc => .ok false
    | .interface _, .niface, .iface .. => .ok false
    | .interface _, .iface .., .niface => .ok false
    | .struct fs, .agg xs, .agg ys => if C.P.stoodInHeld t then .no "eq: stood in" else sEqF C (sEq C d) xs ys fs.toList
    | .array n e, .agg xs, .agg ys => (C.size e).bind fun s => sEqI C (sEq C d) e s xs ys (List.range n)
    | .string, x, y => txtCmp C.A x y
    | _, _, _ => .no "eq"
theorem bytesOf_inj {a b : List Nat} (ha : a.all (· < 256) = true) (hb : b.all (· < 256) = true) (h : (bytesOf a).toList = (bytesOf b).toList) : a = b := by
  rw [ByteArray.toList_eq, ByteArray.toList_eq] at h
  have h : a.map UInt8.ofNat = b.map UInt8.ofNat := by simpa [bytesOf] using h
  have back : ∀ l : List Nat, l.all (· < 256) = true → (l.map UInt8.ofNat).map UInt8.toNat = l := by
    intro l hl
    rw [List.map_map]
    conv => rhs; rw [← List.map_id l]
    apply List.map_congr_left
    intro x hx
    have := List.all_eq_true.1 hl x hx
    simp only [decide_eq_true_eq] at this
    simp; omega
  rw [← back a ha, ← back b hb, h]
theorem bytesOf_beq {a b : List Nat} (ha : a.all (· < 256) = true) (hb : b.all (· < 256) = true) : ((bytesOf a).toList == (bytesOf b).toList) = (a == b) := by
  by_cases h : a = b
  · subst h; simp
  · have : (bytesOf a).toList ≠ (bytesOf b).toList := fun e => h (bytesOf_inj ha hb e)
    rw [beq_eq_false_iff_ne.2 h, beq_eq_false_iff_ne.2 this]
theorem bytesArr_toList (l : List UInt8) : (ByteArray.mk l.toArray).toList = l := by
  rw [ByteArray.toList_eq]
theorem bytesArr_beq (a b : List UInt8) : ((ByteArray.mk a.toArray).toList == (ByteArray.mk b.toArray).toList) = decide (a = b) := by
  rw [bytesArr_toList, bytesArr_toList]
  by_cases h : a = b
  · subst h; simp
  · rw [beq_eq_false_iff_ne.2 h]; simp [h]
section
variable {C : Ctx} {E : Val} {ρ : Rho} (w : World)
/-- A comparison of parts that is right. -/
noncomputable def EqR (C : Ctx) (E : Val) (ρ : Rho) (w : World) (d : Nat) (eq : TypeId → SV → SV → R Bool) : Prop :=
  ∀ {t : TypeId} {x y : SV} {a b : Value} {r : Bool}, Den E ρ x a → Den E ρ y b → eq t x y = .ok r → (Op.equalIn d t a b).run C.P w = .ok r w
theorem sEqF_ok {d : Nat} {eq : TypeId → SV → SV → R Bool} (he : EqR C E ρ w d eq) {xs ys : List SV} {as bs : List Value} (ha : DenL E ρ xs as) (hb : DenL E ρ ys bs) :
    ∀ {fs : List Field} {r : Bool}, sEqF C eq xs ys fs = .ok r → (Op.eqFields d as.toArray bs.toArray fs).run C.P w = .ok r w
  | [], r, h => by simp [sEqF] at h; subst h; simp [Op.eqFields]
  | f :: fs, r, h => by
    rw [sEqF] at h
    split at h
    · rename_i hn
      simp only [Op.eqFields, hn, ne_eq, not_true_eq_false, if_false]
      exact sEqF_ok he ha hb h
    · rename_i hn
      simp only [R.bind_ok] at h
      obtain ⟨x, hx, y, hy, q, hq, h⟩ := h
      obtain ⟨u, hu, du⟩ := sPart_ok (C := C) w (cs := as.toArray) (by simpa using ha) hx
      obtain ⟨v, hv, dv⟩ := sPart_ok (C := C) w (cs := bs.toArray) (by simpa using hb) hy
      have e := he du dv hq
      simp only [Op.eqFields, ne_eq, hn, not_false_eq_true, if_true, Sem.run_bind, hu, hv, e, Result.andThen_ok]
      cases q
      · simp at h; subst h; simp
      · simp only [if_true] at h; simpa using sEqF_ok he ha hb h
theorem sEqI_ok {d : Nat} {eq : TypeId → SV → SV → R Bool} (he : EqR C E ρ w d eq) {e : TypeId} {s : Nat} {xs ys : List SV} {as bs : List Value} (ha : DenL E ρ xs as) (hb : DenL E ρ ys bs) :
    ∀ {is : List Nat} {r : Bool}, sEqI C eq e s xs ys is = .ok r → (Op.eqItems d e s as.toArray bs.toArray is).run C.P w = .ok r w
  | [], r, h => by simp [sEqI] at h; subst h; simp [Op.eqItems]
  | i :: is, r, h => by
    rw [sEqI] at h
    simp only [R.bind_ok] at h
    obtain ⟨x, hx, y, hy, q, hq, h⟩ := h
    obtain ⟨u, hu, du⟩ := sPart_ok (C := C) w (cs := as.toArray) (by simpa using ha) hx
    obtain ⟨v, hv, dv⟩ := sPart_ok (C := C) w (cs := bs.toArray) (by simpa using hb) hy
    have e := he du dv hq
    simp only [Op.eqItems, Sem.run_bind, hu, hv, e, Result.andThen_ok]
    cases q
    · simp at h; subst h; simp
    · simp only [if_true] at h; simpa using sEqI_ok he ha hb h
theorem sEq_ok (hA : C.A.Holds E.I) : ∀ (d : Nat) {t : TypeId} {x y : SV} {a b : Value} {r : Bool}, Den E ρ x a → Den E ρ y b → sEq C d t x y = .ok r → (Op.equalIn d t a b).run C.P w = .ok r w
  | 0, _, _, _, _, _, _, _, _, h => by simp [sEq] at h
  | d + 1, t, x, y, a, b, r, hx, hy, h => by
    simp only [sEq, R.bind_ok] at h
    obtain ⟨u, hu, h⟩ := h
    have hu' := under_ok w hu
    split at h
    case h_1 => cases hx; cases hy; cases h; simp [Op.equalIn, hu']
    case h_2 =>
      cases hx; cases hy
      split at h
      · rename_i hk
        subst hk
        have := cmpI_ok hA h
        simp only [cmpD] at this
        simp [Op.equalIn, hu', ← this]
      · cases h
    case h_3 =>
      obtain ⟨ha, rfl⟩ := hx
      obtain ⟨hb, rfl⟩ := hy
      cases h
      rw [run_equalIn_string w d t _ _ (ofOpt_ok.1 hu), bytesOf_beq ha hb]
    case h_4 => cases hx; cases hy; cases h; simp [Op.equalIn, hu']
    case h_5 => cases hx; obtain ⟨p, _, rfl⟩ := hy; cases h; simp [Op.equalIn, hu']
    case h_6 => cases hy; obtain ⟨p, _, rfl⟩ := hx; cases h; simp [Op.equalIn, hu']
    case h_7 => cases hx; cases hy; cases h; simp [Op.equalIn, hu']
    case h_8 => cases hx; obtain ⟨p, _, hh⟩ := hy; cases h; rcases hh with ⟨rfl, _⟩ | ⟨_, _, ⟨q, rfl⟩, _⟩ <;> simp [Op.equalIn, hu']
    case h_9 => cases hy; obtain ⟨p, _, hh⟩ := hx; cases h; rcases hh with ⟨rfl, _⟩ | ⟨_, _, ⟨q, rfl⟩, _⟩ <;> simp [Op.equalIn, hu']
    case h_10 => cases hx; cases hy; cases h; simp [Op.equalIn, hu']
    case h_11 => cases hy; obtain ⟨p, q, _, _, rfl⟩ := hx; cases h; simp [Op.equalIn, hu']
    case h_12 => cases hy; obtain ⟨p, _, rfl⟩ := hx; cases h; simp [Op.equalIn, hu']
    case h_13 => cases hx; obtain ⟨p, _, rfl⟩ := hy; cases h; simp [Op.equalIn, hu']
    case h_14 => cases hy; obtain ⟨p, _, rfl⟩ := hx; cases h; simp [Op.equalIn, hu']
    case h_15 fs xs ys =>
      obtain ⟨as, ha, rfl⟩ := hx
      obtain ⟨bs, hb, rfl⟩ := hy
      split at h
      · cases h
      · rename_i hs
        have e := ofOpt_ok.1 hu
        have hf : C.P.fieldsOf t = fs := by simp [Program.fieldsOf, e]
        rw [run_equalIn_struct w d t _ _ (by rw [hf]; exact e) (by simpa using hs), hf]
        exact sEqF_ok w (fun x y h => sEq_ok hA d x y h) ha hb h
    case h_16 n e xs ys =>
      obtain ⟨as, ha, rfl⟩ := hx
      obtain ⟨bs, hb, rfl⟩ := hy
      simp only [R.bind_ok] at h
      obtain ⟨s, hs, h⟩ := h
      simp only [Ctx.size, R.bind_ok] at hs
      obtain ⟨i, hi, hs⟩ := hs
      cases hs
      rw [run_equalIn_array w d _ _ (ofOpt_ok.1 hu) (info_ok hi)]
      have : C.P.cellsOf e = i.size := by simp [Program.cellsOf, info_ok hi]
      rw [this]
      exact sEqI_ok w (fun x y h => sEq_ok hA d x y h) ha hb h
    case h_17 =>
      simp only [txtCmp, R.bind_ok, ofOpt_ok] at h
      obtain ⟨l, hl, m, hm, h⟩ := h
      obtain ⟨h1, rfl⟩ := SV.chars_ok hx hl
      obtain ⟨h2, rfl⟩ := SV.chars_ok hy hm
      rw [run_equalIn_string w d t _ _ (ofOpt_ok.1 hu)]
      have := chEq_ok hA h1 h2 h
      rw [← this, bytesArr_beq]
    case h_18 => cases h
end
end Go.Proofs.YtfiangiajhdhcaaDoor
