/- The reference of layer 9 (checker): any Walked. -/
import Derived.Test.YtfikiophfphmbaaV8
import Derived.WalkKit
import Derived.WalkSpells
import Derived.ProofKit
import Derived.Outline
import Derived.Handy
import Derived.RowKit3
import Derived.BigQuiet
import Derived.Deep.QuietTactic
import Derived.Deep.RegionHeld3
import Derived.Deep.Draws
import Derived.Deep.RegionLaw
import Derived.RegionTactic
import Derived.BigRegion
import Derived.IntWalk
import Derived.LoopTactic
import Derived.OwnWalk
import Derived.Laws.AppendOwn
import Derived.Laws.OwnMore
import Derived.Laws.MakeOwn
import Derived.Laws.Pointers
import Derived.Maps.AppendAt
import Derived.Deep.AppendLies
import Derived.Below
namespace Go.Proofs.Ytfikiophfphmbaa
open Go.RowKit
set_option linter.unusedVariables false
set_option maxRecDepth 100000

section
variable {R en gs n : Nat} {G O : Value} {wk at_ : Int} {st : Bool}
theorem rwalked_any (a word : Int) (w : World) (h : Rk w R en gs G O n wk at_ st) : Calls Try.prog 40 #[.pointer (some ⟨R, 0, none⟩), .int .i64 a, .int .i64 word] w (WalR R en gs G O w) := by
  by_cases hw : wk < 0
  · exact rw_state a word wk hw w h
  · obtain ⟨k, rfl⟩ : ∃ k : Nat, wk = k := ⟨wk.toNat, by omega⟩
    by_cases ha : a = at_
    · subst ha
      cases st
      · obtain ⟨k', nx, o, lk, hc, hN⟩ := rstep_any gs k a word h.g16 (by have := h.wb; omega)
        rcases hc with ⟨rfl, rfl⟩ | ⟨rfl, rfl⟩ | ⟨rfl, rfl⟩
        · exact rw_0 o nx word hN w h
        · exact rw_1 o nx word hN w h
        · cases lk
          · by_cases hlt : n < en
            · exact rw_room hlt o word hN w h
            · have hle := h.le
              have h1 := h.e1
              obtain ⟨m, rfl⟩ : ∃ m, en = m + 1 := ⟨en - 1, by omega⟩
              obtain rfl : n = m + 1 := by omega
              exact rw_full o word hN w h
          · exact rw_lock o word hN w h
      · exact rw_stale word w h
    · exact rw_arg a word ha w h
end
end Go.Proofs.Ytfikiophfphmbaa
