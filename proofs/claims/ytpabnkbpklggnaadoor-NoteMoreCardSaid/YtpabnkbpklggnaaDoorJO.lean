import Derived.Test.YtpabnkbpklggnaaDoorY03
import Derived.Test.YtpabnkbpklggnaaDoorJE2
import Derived.Test.YtpabnkbpklggnaaDoorJB4
import Derived.Test.YtpabnkbpklggnaaDoorV28
import Derived.Test.YtpabnkbpklggnaaDoorProg
import Derived.WalkKit
import Derived.ProofKit
import Derived.KernelRfl
import Derived.Shelf.RegionOpen
import Derived.Laws.ResultCell
import Derived.Lib.Builder
import Derived.Lib.UnsafeStr
import Derived.Lib.AppendStr
import Derived.Lib.MakeNoZero
import Derived.Lib.Strings
import Derived.Lib.Slices
import Derived.Lib.Walk
import Derived.Laws.Externs
import Derived.IntWalk
import Derived.Lib.AppendIntMem
import Derived.Shelf.Strings.BuilderX
namespace Go.Proofs.YtpabnkbpklggnaaDoor
open Go.RowKit Go.Shelf Go.Lib Go.Sort
set_option linter.unusedVariables false
set_option maxRecDepth 100000
set_option maxHeartbeats 2000000
/-! text.Join (function 38), as the reckoner knows it. -/
theorem pow_vals : tabY03_2.map litV = Lib.pow10Tab.map fun z => Value.int .u64 z := by kernel_rfl
theorem pow_lit : tabY03_2.all SV.isLit = true := by kernel_rfl
theorem pow_named : Tryd.prog.globalNamed "internal/strconv.uint64pow10" = some 2 := by kernel_rfl
theorem jb_same (word : List UInt8) (xs : List Int) : jbytes ⟨word.toArray⟩ xs = joinBytes word xs := by
  simp [jbytes, joinBytes]
theorem join_ok : LibOk Tryd.prog 5 tsY03 38 .join := by
  intro E w word v xs hw hn hr hrow hT
  have htab : ∀ w', Below w.heap.size w w' → Lib.TabIs Tryd.prog w' "internal/strconv.uint64pow10" .u64 Lib.pow10Tab := fun w' hb =>
    tabIs_of (hT.next hb) (g := 2) (l := tabY03_2) (by simp [tsY03]) pow_named pow_lit pow_vals
  have hsz : (ByteArray.mk word.toArray).size ≤ 100 := by simpa [ByteArray.size] using hw
  rcases hrow with ⟨rfl, a, c, rfl⟩ | ⟨b, o, c, rfl, hb, hc⟩
  · rw [← jb_same]
    exact join_none w ⟨word.toArray⟩ a c hsz
  · rw [← jb_same]
    exact join_look w ⟨word.toArray⟩ b o xs c hsz hn hb (hid hc) (hid hr) (hid htab)
noncomputable def bA3 (A : Asm) : Base := libBase A tsY03 [(38, .join), (41, .dec)]
theorem bA3_ok (E : Val) (A : Asm) (hA : A.Holds E.I) : BaseOk ⟨Tryd.prog, A, 5⟩ E (bA3 A) := by
  refine libBase_ok hA (tsY03_closed (C := ⟨Tryd.prog, A, 5⟩) rfl) (fun f k hk => ?_)
  simp only [List.lookup] at hk
  split at hk
  · rename_i e; cases hk; obtain rfl : f = 38 := by simpa using e
    exact join_ok
  · split at hk
    · rename_i e; cases hk; obtain rfl : f = 41 := by simpa using e
      exact dec_ok _
    · cases hk
theorem awakeY03_13 (E : Val) (w : World) (hT : TabsIn E 5 tsY03 w) : Calls Tryd.prog 13 #[] w fun e w' => e = .returned (.bool true) ∧ Below w.heap.size w w' :=
  law_okA (E := E) (P := Tryd.prog) (G := 5) (B := bA3) (ts := tsY03) (k := 3000) (args := []) (t := .leaf) (A0 := {}) (by kernel_rfl) ⟨fun _ _ _ _ h => (by cases h), fun _ _ h => (by cases h)⟩ (fun A hA => bA3_ok E A hA) hT rfl
noncomputable def bk3 : Base := constBase tsY03 [(13, .bool true)]
theorem bk3_ok (E : Val) (A : Asm) : BaseOk ⟨Tryd.prog, A, 5⟩ E bk3 := by
  refine constBase_ok (fun g l hm => ?_) (fun f v hl w hT => ?_)
  · obtain ⟨h1, h2⟩ := tsY03_closed (C := ⟨Tryd.prog, A, 5⟩) rfl g l hm
    exact ⟨h1, h2 E⟩
  · simp only [List.lookup] at hl
    split at hl
    · rename_i e
      cases hl
      obtain rfl : f = 13 := by simpa using e
      refine (callsIn_wide (n := 0)).1 (CallsIn.mono ((callsIn_wide (n := 0)).2 (awakeY03_13 E w hT)) ?_)
      rintro e w' ⟨rfl, hb⟩
      exact ⟨_, rfl, hb, fun ρ => rfl⟩
    · cases hl
/-- What is known beforehand in stage 3's laws. -/
noncomputable def B3 (A : Asm) : Base := bk3.or (bA3 A)
theorem B3_ok (E : Val) (A : Asm) (hA : A.Holds E.I) : BaseOk ⟨Tryd.prog, A, 5⟩ E (B3 A) := BaseOk.or (bk3_ok E A) (bA3_ok E A hA)
end Go.Proofs.YtpabnkbpklggnaaDoor
