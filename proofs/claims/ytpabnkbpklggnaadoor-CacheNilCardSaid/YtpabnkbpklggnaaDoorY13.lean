/- The reckoner. -/
import Derived.Test.YtpabnkbpklggnaaDoorV25
import Derived.Test.YtpabnkbpklggnaaDoorRows
import Derived.KernelRfl
namespace Go.Proofs.YtpabnkbpklggnaaDoor
open Go.RowKit
set_option linter.unusedVariables false
set_option maxRecDepth 100000

/-- donjon/moesi.states, cell by cell. -/
def tabY13_1 : List SV := [.str [73], .bool false, .bool false, .bool false, .bool false, .int .i64 (.lit 0), .int .i64 (.lit 0), .str [83], .bool true, .bool false, .bool false, .bool false, .int .i64 (.lit 0), .int .i64 (.lit 1), .str [69], .bool true, .bool true, .bool false, .bool true, .int .i64 (.lit 4), .int .i64 (.lit 1), .str [79], .bool true, .bool false, .bool true, .bool true, .int .i64 (.lit 0), .int .i64 (.lit 3), .str [77], .bool true, .bool true, .bool true, .bool true, .int .i64 (.lit 4), .int .i64 (.lit 3)]
theorem tabY13_1_flat : flatD Tryd.prog 10 137 Rows.laid_donjon_moesi_states = some tabY13_1 := by kernel_rfl
def tsY13 : List (Nat × List SV) := [(1, tabY13_1)]
theorem tabs_ofY13 {W : World} (E : Val) (h : laidMetH Tryd.prog [("donjon/moesi.states", Rows.laid_donjon_moesi_states)] W) : TabsIn E 5 tsY13 W := by
  obtain ⟨ps, hv, _⟩ := h
  intro g l hm
  simp only [tsY13, List.mem_cons, List.not_mem_nil, or_false, Prod.mk.injEq] at hm
  rcases hm with ⟨rfl, rfl⟩
  · exact tab_laid (n := "donjon/moesi.states") (by kernel_rfl) (by kernel_rfl) tabY13_1_flat (by omega) hv (by simp)
theorem tsY13_closed {C : Ctx} (hG : C.G = 5) : ∀ g l, (g, l) ∈ tsY13 → g < C.G ∧ ∀ (E : Val) (ρ : Rho) (us : List Value), DenL E ρ l us → DenL E (rho0 C.G) l us := by
  intro g l hm
  simp only [tsY13, List.mem_cons, List.not_mem_nil, or_false, Prod.mk.injEq] at hm
  rcases hm with ⟨rfl, rfl⟩
  · refine ⟨by omega, fun E ρ us h => ?_⟩
    simpa only [tabY13_1, DenL, Den] using h
theorem awakeY13_28 (E : Val) (w : World) (hT : TabsIn E 5 tsY13 w) : Calls Tryd.prog 28 #[] w fun e w' => e = .returned (.bool true) ∧ Below w.heap.size w w' :=
  law_ok (E := E) (P := Tryd.prog) (G := 5) (B := {}) (ts := tsY13) (k := 3000) (args := []) (t := .leaf) (A0 := {}) (by kernel_rfl) ⟨fun _ _ _ _ h => (by cases h), fun _ _ h => (by cases h)⟩ (fun _ _ => .none _ _) hT rfl
def BkY13 : Base := constBase tsY13 [(28, .bool true)]
theorem BkY13_ok (E : Val) (A : Asm) : BaseOk ⟨Tryd.prog, A, 5⟩ E BkY13 := by
  refine constBase_ok (fun g l hm => ?_) (fun f v hl w hT => ?_)
  · obtain ⟨h1, h2⟩ := tsY13_closed (C := ⟨Tryd.prog, A, 5⟩) rfl g l hm
    exact ⟨h1, h2 E⟩
  · simp only [List.lookup] at hl
    split at hl
    · rename_i e
      cases hl
      obtain rfl : f = 28 := by simpa using e
      refine (callsIn_wide (n := 0)).1 (CallsIn.mono ((callsIn_wide (n := 0)).2 (awakeY13_28 E w hT)) ?_)
      rintro e w' ⟨rfl, hb⟩
      exact ⟨_, rfl, hb, fun ρ => rfl⟩
    · cases hl
end Go.Proofs.YtpabnkbpklggnaaDoor
