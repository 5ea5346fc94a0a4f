import Derived.Test.YtpabnkbpklggnaaDoorJB3
import Derived.Test.YtpabnkbpklggnaaDoorProg
import Derived.WalkKit
import Derived.ProofKit
import Derived.KernelRfl
import Derived.Shelf.RegionOpen
import Derived.Laws.ResultCell
import Derived.Lib.Builder
import Derived.Lib.UnsafeStr
import Derived.Lib.AppendStr
import Derived.Lib.MakeNoZero
import Derived.Lib.Strings
import Derived.Lib.Slices
import Derived.Lib.Walk
import Derived.Laws.Externs
import Derived.IntWalk
import Derived.Lib.AppendIntMem
import Derived.Shelf.Strings.BuilderX
namespace Go.Proofs.YtpabnkbpklggnaaDoor
open Go.RowKit Go.Shelf Go.Lib Go.Sort
set_option linter.unusedVariables false
set_option maxRecDepth 100000
set_option maxHeartbeats 2000000
set_option maxHeartbeats 4000000 in
theorem join_none (w : World) (word : ByteArray) (a : Option Addr) (cap : Nat) (hlen : word.size ≤ 100) :
    Calls Tryd.prog 38 #[.string word, .slice a 0 cap] w fun e w' => e = .returned (.string ⟨(jbytes word ([] : List Int)).toArray⟩) ∧ Below w.heap.size w w' := by
  have hf := fun W : World => Lib.fresh_isBuilder 115 5 W
  go_enter Tryd.func38, Tryd.ntmps38
  go_wp2_with (go_at_call 61; refine (ws_any word (hf _) (by simp; omega) (by simp)).mono ?_)
  rintro e w1 ⟨rfl, h1, hb1⟩
  obtain ⟨B, hB⟩ : ∃ B, B = w.heap.size := ⟨_, rfl⟩
  have h2 := hid h1
  clear h1
  clear hf
  go_wp2
  go_loopw [12] (fun v12 wr => JR w B word [] v12 wr) (fun v12 _ => 0 - (Go.RowKit.intOf v12).toNat)
  case atStart =>
    refine ⟨0, Nat.zero_le _, rfl, ?_, ?_⟩
    · subst hB; exact hid (by simpa [jtxt] using h2.out)
    · subst hB; exact ((Go.RowKit.Below.refl _ w).alloc (Nat.le_refl _) _).trans hb1
  case round =>
    obtain ⟨k, hk, rfl, hA, hbl⟩ := hrel
    subst hB
    have hsz := hbl.size
    obtain rfl : k = 0 := by simpa using hk
    have hlt' : ¬ ((0 : Nat) : Int) < (0 : Int) := by omega
    have hl : jtxt word (([] : List Int).take 0) = Lib.byteCells (jbytes word ([] : List Int)) := by exact jtxt_bytes word []
    obtain ⟨l, hl'⟩ : ∃ l, l = jbytes word ([] : List Int) := ⟨_, rfl⟩
    rw [← hl'] at hl
    have hA := hid (hl ▸ hA.out)
    have hBw : w.heap.size ≤ wr.heap.size := by omega
    have hS := hid (Tryd.Builder_String_any w.heap.size w.heap.size l wr (.inr hA.out) hBw)
    go_wp2_with (go_at_call 64; refine hS.out.mono ?_)
    rintro e w2 ⟨rfl, hb2⟩
    intro hb2'
    apply_assumption
    go_wp2
    go_ret
    refine ⟨?_, hbl.trans (by assumption)⟩
    first | (rw [hl']; rfl) | (simp [go_sem]; exact hl') | (simp [go_sem])
end Go.Proofs.YtpabnkbpklggnaaDoor
