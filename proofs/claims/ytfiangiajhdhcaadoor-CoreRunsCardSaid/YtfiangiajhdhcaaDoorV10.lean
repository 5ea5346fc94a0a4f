/- The reckoner: a symbolic evaluator of a program, proved sound; one of its texts. No condition. -/
import Derived.Test.YtfiangiajhdhcaaDoorV9
namespace Go.Proofs.YtfiangiajhdhcaaDoor
open Go.RowKit
set_option linter.unusedVariables false
set_option maxRecDepth 100000

section
variable {C : Ctx} {E : Val} {ρ : Rho} {H : SH} {n : Nat} {w : World}
/-- The second operand's type is no number's. -/
noncomputable def NoZeros (P : Program) (ts : Array TypeId) : Prop := ts[1]? = none ∨ ∃ xT d, ts[1]? = some xT ∧ P.underlying xT = some d ∧ ((∃ e, d = .slice e) ∨ d = .string)
theorem run_app_in {P : Program} {ts : Array TypeId} {ty t e : TypeId} {as : Array Value} {base : Option Addr} {sLen sCap m : Nat} {x : Value} {i : TypeInfo} {nw : Array Value} {w' : World}
    (h0 : ts[0]? = some t) (hz : NoZeros P ts) (ha : as[0]? = some (.slice base sLen sCap)) (hx : as[1]? = some x) (hu : P.underlying t = some (.slice e)) (hi : P.info? e = some i)
    (hm : (Builtin.lenOf x).run P w = .ok m w) (hf : (Builtin.firstCells i.size m x).run P w = .ok nw w) (hroom : sLen + m ≤ sCap)
    (hs : ∀ a, base = some a → (storeCells (a.add (sLen * i.size)) nw.toList).run P w = .ok () w') (hn : base = none → w' = w) :
    (Builtin.append_ ts ty as).run P w = .ok (.slice base (sLen + m) sCap) w' := by
  cases base with
  | none =>
    obtain rfl := hn rfl
    rcases hz with hz | ⟨xT, d, hz, hd, ⟨el, rfl⟩ | rfl⟩
    · simp [Builtin.append_, h0, ha, hx, hz, run_underlying hu, sizeOf, typeInfo, hi, hm, hf, hroom, Sem.run_bind]
    · simp [Builtin.append_, h0, ha, hx, hz, run_underlying hu, run_underlying hd, sizeOf, typeInfo, hi, hm, hf, hroom, Sem.run_bind]
    · simp [Builtin.append_, h0, ha, hx, hz, run_underlying hu, run_underlying hd, sizeOf, typeInfo, hi, hm, hf, hroom, Sem.run_bind]
  | some a =>
    have hs := hs a rfl
    rcases hz with hz | ⟨xT, d, hz, hd, ⟨el, rfl⟩ | rfl⟩
    · simp [Builtin.append_, h0, ha, hx, hz, run_underlying hu, sizeOf, typeInfo, hi, hm, hf, hroom, hs, Sem.run_bind]
    · simp [Builtin.append_, h0, ha, hx, hz, run_underlying hu, run_underlying hd, sizeOf, typeInfo, hi, hm, hf, hroom, hs, Sem.run_bind]
    · simp [Builtin.append_, h0, ha, hx, hz, run_underlying hu, run_underlying hd, sizeOf, typeInfo, hi, hm, hf, hroom, hs, Sem.run_bind]
theorem run_app_new {P : Program} {ts : Array TypeId} {ty t e : TypeId} {as : Array Value} {base : Option Addr} {sLen sCap m : Nat} {x z : Value} {i : TypeInfo} {od nw : Array Value}
    (h0 : ts[0]? = some t) (hz : NoZeros P ts) (ha : as[0]? = some (.slice base sLen sCap)) (hx : as[1]? = some x) (hu : P.underlying t = some (.slice e)) (hi : P.info? e = some i) (hzero : i.zero = some z)
    (hm : (Builtin.lenOf x).run P w = .ok m w) (hf : (Builtin.firstCells i.size m x).run P w.drew = .ok nw w.drew) (ho : (Builtin.firstCells i.size sLen (.slice base sLen sCap)).run P w.drew = .ok od w.drew)
    (hroom : ¬ sLen + m ≤ sCap) (hb : i.bytes ≠ 0) (h48 : ¬ Builtin.nextslicecap (sLen + m) sCap * i.bytes > 2 ^ 48) :
    ∃ newCap, sLen + m ≤ newCap ∧ (Builtin.append_ ts ty as).run P w = .ok (.slice (some ⟨w.heap.size, 0, none⟩) (sLen + m) newCap) (w.drew.alloc (.cells (od ++ nw ++ Builtin.zeroCells z.cells (newCap - (sLen + m))) e)) := by
  have room : ∀ k, (askRoom k).run P w.drew = .ok () w.drew := by
    intro k
    unfold askRoom
    split <;> rfl
  have h48' : ¬ (281474976710656 < Builtin.nextslicecap (sLen + m) sCap * i.bytes) := by omega
  refine ⟨grownCap w (sLen + m) sCap e, grownCap_ge w _ _ e, ?_⟩
  rcases hz with hz | ⟨xT, d, hz, hd, ⟨el, rfl⟩ | rfl⟩
  · simp [Builtin.append_, h0, ha, hx, hz, run_underlying hu, sizeOf, typeInfo, zeroValue, hi, hzero, hm, hf, ho, hroom, hb, h48', newRow, Question.forced, grownCap, Sem.run_bind]
  · simp [Builtin.append_, h0, ha, hx, hz, run_underlying hu, run_underlying hd, sizeOf, typeInfo, zeroValue, hi, hzero, hm, hf, ho, hroom, hb, h48', newRow, Question.forced, grownCap, Sem.run_bind]
  · simp [Builtin.append_, h0, ha, hx, hz, run_underlying hu, run_underlying hd, sizeOf, typeInfo, zeroValue, hi, hzero, hm, hf, ho, hroom, hb, h48', newRow, Question.forced, grownCap, Sem.run_bind]
end
end Go.Proofs.YtfiangiajhdhcaaDoor
