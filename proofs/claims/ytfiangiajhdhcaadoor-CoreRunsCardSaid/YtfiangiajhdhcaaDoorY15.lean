/- The table and the chapter's example. No condition. -/
import Derived.Test.YtfiangiajhdhcaaDoorV27
import Derived.Test.YtfiangiajhdhcaaDoorRows
import Derived.KernelRfl
namespace Go.Proofs.YtfiangiajhdhcaaDoor
open Go.RowKit
set_option linter.unusedVariables false
set_option maxRecDepth 100000

/-- donjon/isa.ops, cell by cell. -/
noncomputable def tabY15_0 : List SV := [.str [], .int .i64 (.lit 0), .int .i64 (.lit 0), .int .i64 (.lit 0), .str [115, 101, 116], .int .i64 (.lit 1), .int .i64 (.lit 2), .int .i64 (.lit 0), .str [97, 100, 100], .int .i64 (.lit 1), .int .i64 (.lit 1), .int .i64 (.lit 1), .str [108, 111, 97, 100], .int .i64 (.lit 1), .int .i64 (.lit 1), .int .i64 (.lit 0), .str [115, 116, 111, 114, 101], .int .i64 (.lit 1), .int .i64 (.lit 1), .int .i64 (.lit 0), .str [115, 119, 97, 112], .int .i64 (.lit 1), .int .i64 (.lit 1), .int .i64 (.lit 0), .str [102, 101, 110, 99, 101], .int .i64 (.lit 0), .int .i64 (.lit 0), .int .i64 (.lit 0), .str [119, 111, 114, 108, 100], .int .i64 (.lit 3), .int .i64 (.lit 0), .int .i64 (.lit 0), .str [99, 97, 108, 108], .int .i64 (.lit 4), .int .i64 (.lit 1), .int .i64 (.lit 1), .str [106, 117, 109, 112], .int .i64 (.lit 5), .int .i64 (.lit 0), .int .i64 (.lit 0), .str [122, 101, 114, 111], .int .i64 (.lit 1), .int .i64 (.lit 5), .int .i64 (.lit 0), .str [104, 97, 108, 116], .int .i64 (.lit 0), .int .i64 (.lit 0), .int .i64 (.lit 0)]
theorem tabY15_0_flat : flatD Tryd.prog 10 153 Rows.laid_donjon_isa_ops = some tabY15_0 := by kernel_rfl
noncomputable def tsY15 : List (Nat × List SV) := [(0, tabY15_0)]
theorem tabs_ofY15 {W : World} (E : Val) (h : laidMetH Tryd.prog [("donjon/isa.ops", Rows.laid_donjon_isa_ops)] W) (hK : E.K W) : TabsIn E 9 tsY15 W := by
  obtain ⟨ps, hv, _⟩ := h
  refine ⟨hK, ?_⟩
  intro g l hm
  simp only [tsY15, List.mem_cons, List.not_mem_nil, or_false, Prod.mk.injEq] at hm
  rcases hm with ⟨rfl, rfl⟩
  · exact tab_laid (n := "donjon/isa.ops") (by kernel_rfl) (by kernel_rfl) tabY15_0_flat (by omega) hv (by simp)
theorem tsY15_closed {C : Ctx} (hG : C.G = 9) : ∀ g l, (g, l) ∈ tsY15 → g < C.G ∧ ∀ (E : Val) (ρ : Rho) (us : List Value), DenL E ρ l us → DenL E (rho0 C.G) l us := by
  intro g l hm
  simp only [tsY15, List.mem_cons, List.not_mem_nil, or_false, Prod.mk.injEq] at hm
  rcases hm with ⟨rfl, rfl⟩
  · refine ⟨by omega, fun E ρ us h => ?_⟩
    exact DenL.lits (show tabY15_0.all SV.isLit = true by kernel_rfl) h
theorem awakeY15_36 (E : Val) (w : World) (hT : TabsIn E 9 tsY15 w) : Calls Tryd.prog 36 #[] w fun e w' => e = .returned (.bool true) ∧ Below w.heap.size w w' :=
  law_ok (E := E) (P := Tryd.prog) (G := 9) (B := {}) (ts := tsY15) (k := 3000) (args := []) (t := .leaf) (A0 := {}) (by kernel_rfl) ⟨fun _ _ _ _ h => (by cases h), fun _ _ h => (by cases h)⟩ (fun _ _ => .none _ _) hT rfl
noncomputable def BkY15 : Base := constBase tsY15 [(36, .bool true)]
theorem BkY15_ok (E : Val) (A : Asm) : BaseOk ⟨Tryd.prog, A, 9⟩ E BkY15 := by
  refine constBase_ok (fun g l hm => ?_) (fun f v hl w hT => ?_)
  · obtain ⟨h1, h2⟩ := tsY15_closed (C := ⟨Tryd.prog, A, 9⟩) rfl g l hm
    exact ⟨h1, h2 E⟩
  · simp only [List.lookup] at hl
    split at hl
    · rename_i e
      cases hl
      obtain rfl : f = 36 := by simpa using e
      refine (callsIn_wide (n := 0)).1 (CallsIn.mono ((callsIn_wide (n := 0)).2 (awakeY15_36 E w hT)) ?_)
      rintro e w' ⟨rfl, hb⟩
      exact ⟨_, rfl, hb, fun ρ => rfl⟩
    · cases hl
end Go.Proofs.YtfiangiajhdhcaaDoor
