/- The reckoner: a symbolic evaluator of a program, proved sound; one of its texts. No condition. -/
import Derived.Test.YtfiangiajhdhcaaDoorV13
namespace Go.Proofs.YtfiangiajhdhcaaDoor
open Go.RowKit
set_option linter.unusedVariables false
set_option maxRecDepth 100000

/-! ### The same operations, looked up by numbers: what does not change is looked at once -/
noncomputable def sw {β : Type} (b : Bool) (x y : β) : β := Bool.rec (motive := fun _ => β) y x b
/-- An operation as a row: which one, types, operands, a number, a sign, a call. -/
structure OV where
  tag : Nat
  t : TypeId
  a : Operand
  b : Operand
  n : Nat
  op : BinOp
  c : Call
noncomputable def ov : Op → OV
  | .load t a => ⟨1, t, a, a, 0, .add, default⟩
  | .move a => ⟨2, 0, a, a, 0, .add, default⟩
  | .assign a => ⟨3, 0, a, a, 0, .add, default⟩
  | .fieldAddr t a f => ⟨4, t, a, a, f, .add, default⟩
  | .binOp op t a b _ => ⟨5, t, a, b, 0, op, default⟩
  | .call c => ⟨6, 0, .const undef, .const undef, 0, .add, c⟩
  | .store t a b => ⟨7, t, a, b, 0, .add, default⟩
  | .indexAddr t a b => ⟨8, t, a, b, 0, .add, default⟩
  | .extract a i => ⟨9, 0, a, a, i, .add, default⟩
  | .field t a f => ⟨10, t, a, a, f, .add, default⟩
  | .index t a b => ⟨11, t, a, b, 0, .add, default⟩
  | .unOp _ _ a => ⟨12, 0, a, a, 0, .add, default⟩
  | .nilCheck a => ⟨13, 0, a, a, 0, .add, default⟩
  | .convert _ _ a => ⟨14, 0, a, a, 0, .add, default⟩
  | .slice .. => ⟨15, 0, .const undef, .const undef, 0, .add, default⟩
  | .pick .. => ⟨16, 0, .const undef, .const undef, 0, .add, default⟩
  | .makeInterface .. => ⟨17, 0, .const undef, .const undef, 0, .add, default⟩
  | .makeFunc .. => ⟨18, 0, .const undef, .const undef, 0, .add, default⟩
  | .build .. => ⟨19, 0, .const undef, .const undef, 0, .add, default⟩
  | _ => ⟨0, 0, .const undef, .const undef, 0, .add, default⟩
noncomputable def fFieldAddr (C : Ctx) (e : Operand → R SV) (s : TypeId) (x : Operand) (f : Nat) : R SV := (C.under s).bind fun d => match d with
    | .struct fs => (ofOpt fs[f]? "field").bind fun fl => (C.size fl.type).bind fun n => if n = 0 then .no "fieldAddr: empty" else (e x).bind fun v => match v with
      | .ptr s off => .ok (.ptr s (off + fl.offset))
      | .elt l off => .ok (.elt l (off + fl.offset))
      | .belt s i l off => .ok (.belt s i l (off + fl.offset))
      | _ => .no "fieldAddr"
    | _ => .no "fieldAddr: struct"
noncomputable def fField (C : Ctx) (e : Operand → R SV) (t : TypeId) (x : Operand) (f : Nat) : R SV := (C.under t).bind fun d => match d with
    | .struct fs => (ofOpt fs[f]? "field").bind fun fl => (e x).bind fun v => match v with
      | .agg l => sPart C fl.type l fl.offset
      | _ => .no "field"
    | _ => .no "field: struct"
noncomputable def fIndexAddr (C : Ctx) (e : Operand → R SV) (t : TypeId) (x ix : Operand) : R SV := (C.under t).bind fun d => (e ix).bind fun i => (e x).bind fun v => match d, i, v with
    | .array n el, .int _ ie, .ptr s off => (concI C.A ie).bind fun i => (C.size el).bind fun z => if 0 ≤ i ∧ i < n then .ok (.ptr s (off + i.toNat * z)) else .no "indexAddr: range"
    | .slice el, .int _ ie, .slice s off n _ _ => (concI C.A ie).bind fun i => (C.size el).bind fun z => if 0 ≤ i ∧ i < n then .ok (.ptr s (off + i.toNat * z)) else .no "indexAddr: range"
    | .slice el, .int _ ie, .asl s len sz foc els => (C.size el).bind fun z => (cmpI C.A .geq ie (.lit 0)).bind fun r1 => (cmpI C.A .lss ie len).bind fun r2 => if (r1 && r2) && z == sz then aslAt s ie foc els else .no "indexAddr: range"
    | .array n el, .int _ ie, .elt l off => (concI C.A ie).bind fun i => (C.size el).bind fun z => if 0 ≤ i ∧ i < n then .ok (.elt l (off + i.toNat * z)) else .no "indexAddr: range"
    | .array n el, .int _ ie, .belt s j l off => (concI C.A ie).bind fun i => (C.size el).bind fun z => if 0 ≤ i ∧ i < n then .ok (.belt s j l (off + i.toNat * z)) else .no "indexAddr: range"
    | _, _, _ => .no "indexAddr"
noncomputable def fExtract (e : Operand → R SV) (x : Operand) (i : Nat) : R SV := (e x).bind fun v => match v with
    | .tup l => ofOpt l[i]? "extract"
    | _ => .no "extract"
noncomputable def fNilCheck (e : Operand → R SV) (x : Operand) : R SV := (e x).bind fun v => match v with
    | .ptr .. => .ok v
    | .elt .. => .ok v
    | .belt .. => .ok v
    | .func .. => .ok v
    | .yield _ => .ok v
    | _ => .no "nilCheck"
noncomputable def evV (C : Ctx) (e : Operand → R SV) (o : Op) : OV → R SV
  | ⟨tag, t, a, b, f, op, _⟩ =>
    sw (Nat.beq tag 2) (e a) (sw (Nat.beq tag 3) (e a) (sw (Nat.beq tag 4) (fFieldAddr C e t a f) (
      sw (Nat.beq tag 5) ((e a).bind fun x => (e b).bind fun y => sBin C op t x y) (
      sw (Nat.beq tag 8) (fIndexAddr C e t a b) (sw (Nat.beq tag 9) (fExtract e a f) (sw (Nat.beq tag 10) (fField C e t a f) (sw (Nat.beq tag 13) (fNilCheck e a) (evQ C e o))))))))
noncomputable def evQ' (C : Ctx) (e : Operand → R SV) (o : Op) : R SV := evV C e o (ov o)
theorem evQ'_eq (C : Ctx) (e : Operand → R SV) (o : Op) : evQ' C e o = evQ C e o := by
  cases o <;> rfl
noncomputable def qRes (C : Ctx) (e : Operand → R SV) (o : Op) (H : SH) (n : Nat) (r : R SV) : R (SV × SH × Nat) :=
  match r with
  | .ok v => .ok (v, H, n)
  | .no (.ask op a b) => .no (.ask op a b)
  | .no y => (evSliceH C e o H y).bind fun v => .ok (v, H, n)
noncomputable def fStore (C : Ctx) (e : Operand → R SV) (t : TypeId) (a v : Operand) (H : SH) (n : Nat) : R (SV × SH × Nat) := (e a).bind fun x => (e v).bind fun y => (evStore C t x y H).bind fun H' => .ok (.tup [], H', n)
noncomputable def fLoad (C : Ctx) (e : Operand → R SV) (t : TypeId) (a : Operand) (H : SH) (n : Nat) : R (SV × SH × Nat) := (e a).bind fun x => (evLoad C t x H).bind fun v => .ok (v, H, n)
noncomputable def evW (X : Rk) (C : Ctx) (e : Operand → R SV) (o : Op) (H : SH) (n : Nat) : OV → R (SV × SH × Nat)
  | ⟨tag, t, a, b, f, op, c⟩ =>
    sw (Nat.beq tag 1) (fLoad C e t a H n) (sw (Nat.beq tag 6) (evCall X C e c H n) (sw (Nat.beq tag 7) (fStore C e t a b H n) (sw (Nat.beq tag 0) (evO X C e o H n) (
      qRes C e o H n (evV C e o ⟨tag, t, a, b, f, op, c⟩)))))
noncomputable def evO' (X : Rk) (C : Ctx) (e : Operand → R SV) (o : Op) (H : SH) (n : Nat) : R (SV × SH × Nat) := evW X C e o H n (ov o)
theorem evO'_eq (X : Rk) (C : Ctx) (e : Operand → R SV) (o : Op) (H : SH) (n : Nat) : evO' X C e o H n = evO X C e o H n := by
  cases o
  all_goals first
    | rfl
    | (show qRes C e _ H n (evQ' C e _) = _
       rw [evQ'_eq]
       unfold evO qRes
       dsimp only
       split <;> rfl)
end Go.Proofs.YtfiangiajhdhcaaDoor
