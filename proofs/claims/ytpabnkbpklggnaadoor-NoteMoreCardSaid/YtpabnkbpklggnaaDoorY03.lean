/- The tables of stage 3. No condition. -/
import Derived.Test.YtpabnkbpklggnaaDoorV28
import Derived.Test.YtpabnkbpklggnaaDoorRows
import Derived.KernelRfl
namespace Go.Proofs.YtpabnkbpklggnaaDoor
open Go.RowKit
set_option linter.unusedVariables false
set_option maxRecDepth 100000

/-- donjon/note.kinds, cell by cell. -/
noncomputable def tabY03_0 : List SV := [.str [], .int .i64 (.lit 0), .int .i64 (.lit 0), .int .i64 (.lit 0), .int .i64 (.lit 0), .int .i64 (.lit 0), .int .i64 (.lit 0), .int .i64 (.lit 0), .int .i64 (.lit 0), .str [103, 101, 116, 115], .int .i64 (.lit 0), .int .i64 (.lit 1), .int .i64 (.lit 2), .int .i64 (.lit 3), .int .i64 (.lit 0), .int .i64 (.lit 0), .int .i64 (.lit 0), .int .i64 (.lit 0), .str [103, 101, 116, 109], .int .i64 (.lit 0), .int .i64 (.lit 1), .int .i64 (.lit 2), .int .i64 (.lit 3), .int .i64 (.lit 0), .int .i64 (.lit 0), .int .i64 (.lit 0), .int .i64 (.lit 0), .str [112, 117, 116], .int .i64 (.lit 0), .int .i64 (.lit 1), .int .i64 (.lit 2), .int .i64 (.lit 4), .int .i64 (.lit 8), .int .i64 (.lit 9), .int .i64 (.lit 10), .int .i64 (.lit 0), .str [100, 111, 110, 101], .int .i64 (.lit 1), .int .i64 (.lit 1), .int .i64 (.lit 2), .int .i64 (.lit 0), .int .i64 (.lit 0), .int .i64 (.lit 0), .int .i64 (.lit 0), .int .i64 (.lit 0), .str [114, 101, 112, 108, 121], .int .i64 (.lit 1), .int .i64 (.lit 1), .int .i64 (.lit 2), .int .i64 (.lit 5), .int .i64 (.lit 8), .int .i64 (.lit 9), .int .i64 (.lit 10), .int .i64 (.lit 13), .str [119, 97, 108, 107], .int .i64 (.lit 0), .int .i64 (.lit 1), .int .i64 (.lit 11), .int .i64 (.lit 0), .int .i64 (.lit 0), .int .i64 (.lit 0), .int .i64 (.lit 0), .int .i64 (.lit 0), .str [100, 114, 111, 112, 112, 101, 100], .int .i64 (.lit 1), .int .i64 (.lit 1), .int .i64 (.lit 12), .int .i64 (.lit 0), .int .i64 (.lit 0), .int .i64 (.lit 0), .int .i64 (.lit 0), .int .i64 (.lit 0), .str [103, 114, 97, 110, 116], .int .i64 (.lit 2), .int .i64 (.lit 1), .int .i64 (.lit 2), .int .i64 (.lit 4), .int .i64 (.lit 6), .int .i64 (.lit 8), .int .i64 (.lit 9), .int .i64 (.lit 0), .str [110, 97, 99, 107], .int .i64 (.lit 2), .int .i64 (.lit 1), .int .i64 (.lit 2), .int .i64 (.lit 13), .int .i64 (.lit 0), .int .i64 (.lit 0), .int .i64 (.lit 0), .int .i64 (.lit 0), .str [112, 117, 116, 97, 99, 107], .int .i64 (.lit 2), .int .i64 (.lit 1), .int .i64 (.lit 2), .int .i64 (.lit 0), .int .i64 (.lit 0), .int .i64 (.lit 0), .int .i64 (.lit 0), .int .i64 (.lit 0), .str [112, 114, 111, 98, 101], .int .i64 (.lit 3), .int .i64 (.lit 1), .int .i64 (.lit 2), .int .i64 (.lit 7), .int .i64 (.lit 0), .int .i64 (.lit 0), .int .i64 (.lit 0), .int .i64 (.lit 0), .str [119, 97, 108, 107, 101, 100], .int .i64 (.lit 2), .int .i64 (.lit 1), .int .i64 (.lit 8), .int .i64 (.lit 9), .int .i64 (.lit 11), .int .i64 (.lit 0), .int .i64 (.lit 0), .int .i64 (.lit 0), .str [100, 114, 111, 112], .int .i64 (.lit 3), .int .i64 (.lit 1), .int .i64 (.lit 12), .int .i64 (.lit 0), .int .i64 (.lit 0), .int .i64 (.lit 0), .int .i64 (.lit 0), .int .i64 (.lit 0)]
theorem tabY03_0_flat : flatD Tryd.prog 10 68 Rows.laid_donjon_note_kinds = some tabY03_0 := by kernel_rfl
/-- internal/strconv.uint64pow10, cell by cell. -/
noncomputable def tabY03_2 : List SV := [.int .u64 (.lit 1), .int .u64 (.lit 10), .int .u64 (.lit 100), .int .u64 (.lit 1000), .int .u64 (.lit 10000), .int .u64 (.lit 100000), .int .u64 (.lit 1000000), .int .u64 (.lit 10000000), .int .u64 (.lit 100000000), .int .u64 (.lit 1000000000), .int .u64 (.lit 10000000000), .int .u64 (.lit 100000000000), .int .u64 (.lit 1000000000000), .int .u64 (.lit 10000000000000), .int .u64 (.lit 100000000000000), .int .u64 (.lit 1000000000000000), .int .u64 (.lit 10000000000000000), .int .u64 (.lit 100000000000000000), .int .u64 (.lit 1000000000000000000), .int .u64 (.lit 10000000000000000000)]
theorem tabY03_2_flat : flatD Tryd.prog 10 156 Rows.laid_internal_strconv_uint64pow10 = some tabY03_2 := by kernel_rfl
/-- math/bits.deBruijn32tab, cell by cell. -/
noncomputable def tabY03_3 : List SV := [.int .u8 (.lit 0), .int .u8 (.lit 1), .int .u8 (.lit 28), .int .u8 (.lit 2), .int .u8 (.lit 29), .int .u8 (.lit 14), .int .u8 (.lit 24), .int .u8 (.lit 3), .int .u8 (.lit 30), .int .u8 (.lit 22), .int .u8 (.lit 20), .int .u8 (.lit 15), .int .u8 (.lit 25), .int .u8 (.lit 17), .int .u8 (.lit 4), .int .u8 (.lit 8), .int .u8 (.lit 31), .int .u8 (.lit 27), .int .u8 (.lit 13), .int .u8 (.lit 23), .int .u8 (.lit 21), .int .u8 (.lit 19), .int .u8 (.lit 16), .int .u8 (.lit 7), .int .u8 (.lit 26), .int .u8 (.lit 12), .int .u8 (.lit 18), .int .u8 (.lit 6), .int .u8 (.lit 11), .int .u8 (.lit 5), .int .u8 (.lit 10), .int .u8 (.lit 9)]
theorem tabY03_3_flat : flatD Tryd.prog 10 162 Rows.laid_math_bits_deBruijn32tab = some tabY03_3 := by kernel_rfl
/-- math/bits.deBruijn64tab, cell by cell. -/
noncomputable def tabY03_4 : List SV := [.int .u8 (.lit 0), .int .u8 (.lit 1), .int .u8 (.lit 56), .int .u8 (.lit 2), .int .u8 (.lit 57), .int .u8 (.lit 49), .int .u8 (.lit 28), .int .u8 (.lit 3), .int .u8 (.lit 61), .int .u8 (.lit 58), .int .u8 (.lit 42), .int .u8 (.lit 50), .int .u8 (.lit 38), .int .u8 (.lit 29), .int .u8 (.lit 17), .int .u8 (.lit 4), .int .u8 (.lit 62), .int .u8 (.lit 47), .int .u8 (.lit 59), .int .u8 (.lit 36), .int .u8 (.lit 45), .int .u8 (.lit 43), .int .u8 (.lit 51), .int .u8 (.lit 22), .int .u8 (.lit 53), .int .u8 (.lit 39), .int .u8 (.lit 33), .int .u8 (.lit 30), .int .u8 (.lit 24), .int .u8 (.lit 18), .int .u8 (.lit 12), .int .u8 (.lit 5), .int .u8 (.lit 63), .int .u8 (.lit 55), .int .u8 (.lit 48), .int .u8 (.lit 27), .int .u8 (.lit 60), .int .u8 (.lit 41), .int .u8 (.lit 37), .int .u8 (.lit 16), .int .u8 (.lit 46), .int .u8 (.lit 35), .int .u8 (.lit 44), .int .u8 (.lit 21), .int .u8 (.lit 52), .int .u8 (.lit 32), .int .u8 (.lit 23), .int .u8 (.lit 11), .int .u8 (.lit 54), .int .u8 (.lit 26), .int .u8 (.lit 40), .int .u8 (.lit 15), .int .u8 (.lit 34), .int .u8 (.lit 20), .int .u8 (.lit 31), .int .u8 (.lit 10), .int .u8 (.lit 25), .int .u8 (.lit 14), .int .u8 (.lit 19), .int .u8 (.lit 9), .int .u8 (.lit 13), .int .u8 (.lit 8), .int .u8 (.lit 7), .int .u8 (.lit 6)]
theorem tabY03_4_flat : flatD Tryd.prog 10 163 Rows.laid_math_bits_deBruijn64tab = some tabY03_4 := by kernel_rfl
noncomputable def tsY03 : List (Nat × List SV) := [(0, tabY03_0), (2, tabY03_2), (3, tabY03_3), (4, tabY03_4)]
theorem tabs_ofY03 {W : World} (E : Val) (h : laidMetH Tryd.prog [("math/bits.deBruijn32tab", Rows.laid_math_bits_deBruijn32tab), ("math/bits.deBruijn64tab", Rows.laid_math_bits_deBruijn64tab), ("internal/strconv.uint64pow10", Rows.laid_internal_strconv_uint64pow10), ("donjon/note.kinds", Rows.laid_donjon_note_kinds)] W) : TabsIn E 5 tsY03 W := by
  obtain ⟨ps, hv, _⟩ := h
  intro g l hm
  simp only [tsY03, List.mem_cons, List.not_mem_nil, or_false, Prod.mk.injEq] at hm
  rcases hm with ⟨rfl, rfl⟩ | ⟨rfl, rfl⟩ | ⟨rfl, rfl⟩ | ⟨rfl, rfl⟩
  · exact tab_laid (n := "donjon/note.kinds") (by kernel_rfl) (by kernel_rfl) tabY03_0_flat (by omega) hv (by simp)
  · exact tab_laid (n := "internal/strconv.uint64pow10") (by kernel_rfl) (by kernel_rfl) tabY03_2_flat (by omega) hv (by simp)
  · exact tab_laid (n := "math/bits.deBruijn32tab") (by kernel_rfl) (by kernel_rfl) tabY03_3_flat (by omega) hv (by simp)
  · exact tab_laid (n := "math/bits.deBruijn64tab") (by kernel_rfl) (by kernel_rfl) tabY03_4_flat (by omega) hv (by simp)
theorem tsY03_closed {C : Ctx} (hG : C.G = 5) : ∀ g l, (g, l) ∈ tsY03 → g < C.G ∧ ∀ (E : Val) (ρ : Rho) (us : List Value), DenL E ρ l us → DenL E (rho0 C.G) l us := by
  intro g l hm
  simp only [tsY03, List.mem_cons, List.not_mem_nil, or_false, Prod.mk.injEq] at hm
  rcases hm with ⟨rfl, rfl⟩ | ⟨rfl, rfl⟩ | ⟨rfl, rfl⟩ | ⟨rfl, rfl⟩
  · refine ⟨by omega, fun E ρ us h => ?_⟩
    exact DenL.lits (show tabY03_0.all SV.isLit = true by kernel_rfl) h
  · refine ⟨by omega, fun E ρ us h => ?_⟩
    exact DenL.lits (show tabY03_2.all SV.isLit = true by kernel_rfl) h
  · refine ⟨by omega, fun E ρ us h => ?_⟩
    exact DenL.lits (show tabY03_3.all SV.isLit = true by kernel_rfl) h
  · refine ⟨by omega, fun E ρ us h => ?_⟩
    exact DenL.lits (show tabY03_4.all SV.isLit = true by kernel_rfl) h
end Go.Proofs.YtpabnkbpklggnaaDoor
