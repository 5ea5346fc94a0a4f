/-
  NARROWER THAN 'FOR EVERY INPUT', by the rows' own cells (each row's printed sentence says how): IsaWorse: laid · AtomSteps: laid · AtomJudges: laid · AtomCopies: laid · AtomKeeps: laid · AtomApart: laid · AtomNil: laid · AtomBusy: laid · CoreRuns: laid · CoreNews: laid · CoreNil: laid · CorePlaces: laid.
  DERIVED. THE GIVEN ROWS OF THIS SEAT. 12 by the template 'for every input the law returns true; each argument reads behind the call as it read before'; 0 by the template 'total and deterministic' (their statements: YtfiangiajhdhcaaDoorTotals.lean).
  GIVEN WITH THE SEED: the statements are not yours to turn. If you find one false, say at which input.
  Laid BY PROGRAM, IN A SANDBOX (cutbox-rows.mjs): the forced cells as the released guide's own fill.sh prints them over the translation e7e8ed9def1fe991… (all of the seat's roots in one cut). By AI agents, Wed Nov 11 2026. No macro, syntax, notation, axiom, sorry.
-/
import Derived.Test.YtfiangiajhdhcaaDoorChecked
import GoSem.PinnedTables
import GoSem.Claim
import GoSem.ClaimJoined
import GoSem.ClaimMapViews
import Derived.JoinedTies
import Derived.KernelRfl
namespace Go.Proofs.YtfiangiajhdhcaaDoor
/- THE CELL 'sum', in the pinned program and in every row, IS THE sha256 OF THE DUMP (.gsa) THAT YtfiangiajhdhcaaDoorProg.lean LOADS. Nothing in Lean hashes anything: it is a label: what it is worth is what the hold of that sum in a sandbox is worth. -/
noncomputable def Tryd.pinned : Pinned := { name := "ytfiangiajhdhcaadoor", sum := "e7e8ed9def1fe99149f0dca5eee50120d7a60b72811203627f2cf34760a08122", checked := Tryd.checked }
namespace Rows
def none {H : Type} : Left H := { results := [], args := [] }

/- WHAT THE LISTED PACKAGE-LEVEL VARIABLES READ AS WHEN THE CALL BEGINS. Each datum BY PROGRAM (the guide's laid-datum.mjs) off the statement by which the dump's own 'gosem.cut.vars' lays the variable. In a bare row this is a premise. The card (YtfiangiajhdhcaaDoorCards.lean) ties it to the program's text. -/
def laid_math_bits_deBruijn32tab {H : Type} : DataW H := .agg [.lit (.int .u8 0), .lit (.int .u8 1), .lit (.int .u8 28), .lit (.int .u8 2), .lit (.int .u8 29), .lit (.int .u8 14), .lit (.int .u8 24), .lit (.int .u8 3), .lit (.int .u8 30), .lit (.int .u8 22), .lit (.int .u8 20), .lit (.int .u8 15), .lit (.int .u8 25), .lit (.int .u8 17), .lit (.int .u8 4), .lit (.int .u8 8), .lit (.int .u8 31), .lit (.int .u8 27), .lit (.int .u8 13), .lit (.int .u8 23), .lit (.int .u8 21), .lit (.int .u8 19), .lit (.int .u8 16), .lit (.int .u8 7), .lit (.int .u8 26), .lit (.int .u8 12), .lit (.int .u8 18), .lit (.int .u8 6), .lit (.int .u8 11), .lit (.int .u8 5), .lit (.int .u8 10), .lit (.int .u8 9)]
def laid_math_bits_deBruijn64tab {H : Type} : DataW H := .agg [.lit (.int .u8 0), .lit (.int .u8 1), .lit (.int .u8 56), .lit (.int .u8 2), .lit (.int .u8 57), .lit (.int .u8 49), .lit (.int .u8 28), .lit (.int .u8 3), .lit (.int .u8 61), .lit (.int .u8 58), .lit (.int .u8 42), .lit (.int .u8 50), .lit (.int .u8 38), .lit (.int .u8 29), .lit (.int .u8 17), .lit (.int .u8 4), .lit (.int .u8 62), .lit (.int .u8 47), .lit (.int .u8 59), .lit (.int .u8 36), .lit (.int .u8 45), .lit (.int .u8 43), .lit (.int .u8 51), .lit (.int .u8 22), .lit (.int .u8 53), .lit (.int .u8 39), .lit (.int .u8 33), .lit (.int .u8 30), .lit (.int .u8 24), .lit (.int .u8 18), .lit (.int .u8 12), .lit (.int .u8 5), .lit (.int .u8 63), .lit (.int .u8 55), .lit (.int .u8 48), .lit (.int .u8 27), .lit (.int .u8 60), .lit (.int .u8 41), .lit (.int .u8 37), .lit (.int .u8 16), .lit (.int .u8 46), .lit (.int .u8 35), .lit (.int .u8 44), .lit (.int .u8 21), .lit (.int .u8 52), .lit (.int .u8 32), .lit (.int .u8 23), .lit (.int .u8 11), .lit (.int .u8 54), .lit (.int .u8 26), .lit (.int .u8 40), .lit (.int .u8 15), .lit (.int .u8 34), .lit (.int .u8 20), .lit (.int .u8 31), .lit (.int .u8 10), .lit (.int .u8 25), .lit (.int .u8 14), .lit (.int .u8 19), .lit (.int .u8 9), .lit (.int .u8 13), .lit (.int .u8 8), .lit (.int .u8 7), .lit (.int .u8 6)]
def laid_internal_strconv_uint64pow10 {H : Type} : DataW H := .agg [.lit (.int .u64 1), .lit (.int .u64 10), .lit (.int .u64 100), .lit (.int .u64 1000), .lit (.int .u64 10000), .lit (.int .u64 100000), .lit (.int .u64 1000000), .lit (.int .u64 10000000), .lit (.int .u64 100000000), .lit (.int .u64 1000000000), .lit (.int .u64 10000000000), .lit (.int .u64 100000000000), .lit (.int .u64 1000000000000), .lit (.int .u64 10000000000000), .lit (.int .u64 100000000000000), .lit (.int .u64 1000000000000000), .lit (.int .u64 10000000000000000), .lit (.int .u64 100000000000000000), .lit (.int .u64 1000000000000000000), .lit (.int .u64 10000000000000000000)]
def laid_unicode_utf8_acceptRanges {H : Type} : DataW H := .agg [.agg [.lit (.int .u8 128), .lit (.int .u8 191)], .agg [.lit (.int .u8 160), .lit (.int .u8 191)], .agg [.lit (.int .u8 128), .lit (.int .u8 159)], .agg [.lit (.int .u8 144), .lit (.int .u8 191)], .agg [.lit (.int .u8 128), .lit (.int .u8 143)], .agg [.lit (.int .u8 0), .lit (.int .u8 0)], .agg [.lit (.int .u8 0), .lit (.int .u8 0)], .agg [.lit (.int .u8 0), .lit (.int .u8 0)], .agg [.lit (.int .u8 0), .lit (.int .u8 0)], .agg [.lit (.int .u8 0), .lit (.int .u8 0)], .agg [.lit (.int .u8 0), .lit (.int .u8 0)], .agg [.lit (.int .u8 0), .lit (.int .u8 0)], .agg [.lit (.int .u8 0), .lit (.int .u8 0)], .agg [.lit (.int .u8 0), .lit (.int .u8 0)], .agg [.lit (.int .u8 0), .lit (.int .u8 0)], .agg [.lit (.int .u8 0), .lit (.int .u8 0)]]
def laid_strconv_ErrRange {H : Type} : DataW H := .iface "*errors.errorString" (.ptr (.agg [.lit (.string [118, 97, 108, 117, 101, 32, 111, 117, 116, 32, 111, 102, 32, 114, 97, 110, 103, 101])]))
def laid_strconv_ErrSyntax {H : Type} : DataW H := .iface "*errors.errorString" (.ptr (.agg [.lit (.string [105, 110, 118, 97, 108, 105, 100, 32, 115, 121, 110, 116, 97, 120])]))
def laid_donjon_isa_ops {H : Type} : DataW H := .agg [.agg [.lit (.string []), .agg [.lit (.int .i64 0), .lit (.int .i64 0), .lit (.int .i64 0)]], .agg [.lit (.string [115, 101, 116]), .agg [.lit (.int .i64 1), .lit (.int .i64 2), .lit (.int .i64 0)]], .agg [.lit (.string [97, 100, 100]), .agg [.lit (.int .i64 1), .lit (.int .i64 1), .lit (.int .i64 1)]], .agg [.lit (.string [108, 111, 97, 100]), .agg [.lit (.int .i64 1), .lit (.int .i64 1), .lit (.int .i64 0)]], .agg [.lit (.string [115, 116, 111, 114, 101]), .agg [.lit (.int .i64 1), .lit (.int .i64 1), .lit (.int .i64 0)]], .agg [.lit (.string [115, 119, 97, 112]), .agg [.lit (.int .i64 1), .lit (.int .i64 1), .lit (.int .i64 0)]], .agg [.lit (.string [102, 101, 110, 99, 101]), .agg [.lit (.int .i64 0), .lit (.int .i64 0), .lit (.int .i64 0)]], .agg [.lit (.string [119, 111, 114, 108, 100]), .agg [.lit (.int .i64 3), .lit (.int .i64 0), .lit (.int .i64 0)]], .agg [.lit (.string [99, 97, 108, 108]), .agg [.lit (.int .i64 4), .lit (.int .i64 1), .lit (.int .i64 1)]], .agg [.lit (.string [106, 117, 109, 112]), .agg [.lit (.int .i64 5), .lit (.int .i64 0), .lit (.int .i64 0)]], .agg [.lit (.string [122, 101, 114, 111]), .agg [.lit (.int .i64 1), .lit (.int .i64 5), .lit (.int .i64 0)]], .agg [.lit (.string [104, 97, 108, 116]), .agg [.lit (.int .i64 0), .lit (.int .i64 0), .lit (.int .i64 0)]]]
/-- One of Go's own tables, pinned by name: the form's constant. -/
def laid_unicode_utf8_first : DataW Unit := Go.Pinned.utf8First

/-- 'donjonlaw10.IsaWorse': WHATEVER THE INPUT: true; the input reads as it did. -/
def isaWorseSpec : ChangeSpec := { name := "isaWorse", fn := fun _ => fun
  | [d1, d2, d3] => { results := [.lit (.bool true)], args := [d1, d2, d3] }
  | _ => none }
def isaWorseRow : OpenClaim := { program := "ytfiangiajhdhcaadoor", sum := "e7e8ed9def1fe99149f0dca5eee50120d7a60b72811203627f2cf34760a08122", func := "donjon/donjonlaw10.IsaWorse", spec := "isaWorse", inPlace := ["internal/abi.NoEscape", "internal/bytealg.CountString", "internal/bytealg.IndexByteString", "internal/bytealg.IndexString"], unfollowed := true, recurses := true, named := ["donjon/isa.ops", "internal/strconv.uint64pow10", "math/bits.deBruijn32tab", "math/bits.deBruijn64tab", "internal/bytealg.MaxLen", "unicode/utf8.first", "unicode/utf8.acceptRanges", "strconv.ErrSyntax", "strconv.ErrRange"], apart := false, laid := [("math/bits.deBruijn32tab", laid_math_bits_deBruijn32tab), ("math/bits.deBruijn64tab", laid_math_bits_deBruijn64tab), ("internal/strconv.uint64pow10", laid_internal_strconv_uint64pow10), ("unicode/utf8.acceptRanges", laid_unicode_utf8_acceptRanges), ("strconv.ErrRange", laid_strconv_ErrRange), ("strconv.ErrSyntax", laid_strconv_ErrSyntax), ("donjon/isa.ops", laid_donjon_isa_ops), ("unicode/utf8.first", laid_unicode_utf8_first)] }
def IsaWorseSaid : Prop := isaWorseRow.holds Tryd.pinned (OpenSpec.ofChange isaWorseSpec)

/-- ITS FALSE NEIGHBOUR: 'it returns false'. Refute it at one input. -/
def isaWorseWrong : ChangeSpec := { name := "isaWorse", fn := fun _ => fun
  | [d1, d2, d3] => { results := [.lit (.bool false)], args := [d1, d2, d3] }
  | _ => none }
def IsaWorseWrongFalsely : Prop := isaWorseRow.holds Tryd.pinned (OpenSpec.ofChange isaWorseWrong)

/-- 'donjonlaw11.AtomSteps': WHATEVER THE INPUT: true; the input reads as it did. -/
def atomStepsSpec : ChangeSpec := { name := "atomSteps", fn := fun _ => fun
  | [d1, d2] => { results := [.lit (.bool true)], args := [d1, d2] }
  | _ => none }
def atomStepsRow : OpenClaim := { program := "ytfiangiajhdhcaadoor", sum := "e7e8ed9def1fe99149f0dca5eee50120d7a60b72811203627f2cf34760a08122", func := "donjon/donjonlaw11.AtomSteps", spec := "atomSteps", unfollowed := true, recurses := true, named := ["donjon/isa.ops"], apart := false, laid := [("donjon/isa.ops", laid_donjon_isa_ops)] }
def AtomStepsSaid : Prop := atomStepsRow.holds Tryd.pinned (OpenSpec.ofChange atomStepsSpec)

/-- ITS FALSE NEIGHBOUR: 'it returns false'. Refute it at one input. -/
def atomStepsWrong : ChangeSpec := { name := "atomSteps", fn := fun _ => fun
  | [d1, d2] => { results := [.lit (.bool false)], args := [d1, d2] }
  | _ => none }
def AtomStepsWrongFalsely : Prop := atomStepsRow.holds Tryd.pinned (OpenSpec.ofChange atomStepsWrong)

/-- 'donjonlaw11.AtomJudges': WHATEVER THE INPUT: true; the input reads as it did. -/
def atomJudgesSpec : ChangeSpec := { name := "atomJudges", fn := fun _ => fun
  | [d1, d2, d3] => { results := [.lit (.bool true)], args := [d1, d2, d3] }
  | _ => none }
def atomJudgesRow : OpenClaim := { program := "ytfiangiajhdhcaadoor", sum := "e7e8ed9def1fe99149f0dca5eee50120d7a60b72811203627f2cf34760a08122", func := "donjon/donjonlaw11.AtomJudges", spec := "atomJudges", unfollowed := true, recurses := true, named := ["donjon/isa.ops"], apart := false, laid := [("donjon/isa.ops", laid_donjon_isa_ops)] }
def AtomJudgesSaid : Prop := atomJudgesRow.holds Tryd.pinned (OpenSpec.ofChange atomJudgesSpec)

/-- ITS FALSE NEIGHBOUR: 'it returns false'. Refute it at one input. -/
def atomJudgesWrong : ChangeSpec := { name := "atomJudges", fn := fun _ => fun
  | [d1, d2, d3] => { results := [.lit (.bool false)], args := [d1, d2, d3] }
  | _ => none }
def AtomJudgesWrongFalsely : Prop := atomJudgesRow.holds Tryd.pinned (OpenSpec.ofChange atomJudgesWrong)

/-- 'donjonlaw11.AtomCopies': WHATEVER THE INPUT: true; the input reads as it did. -/
def atomCopiesSpec : ChangeSpec := { name := "atomCopies", fn := fun _ => fun
  | [d1, d2, d3] => { results := [.lit (.bool true)], args := [d1, d2, d3] }
  | _ => none }
def atomCopiesRow : OpenClaim := { program := "ytfiangiajhdhcaadoor", sum := "e7e8ed9def1fe99149f0dca5eee50120d7a60b72811203627f2cf34760a08122", func := "donjon/donjonlaw11.AtomCopies", spec := "atomCopies", unfollowed := true, recurses := true, named := ["donjon/isa.ops"], apart := false, laid := [("donjon/isa.ops", laid_donjon_isa_ops)] }
def AtomCopiesSaid : Prop := atomCopiesRow.holds Tryd.pinned (OpenSpec.ofChange atomCopiesSpec)

/-- ITS FALSE NEIGHBOUR: 'it returns false'. Refute it at one input. -/
def atomCopiesWrong : ChangeSpec := { name := "atomCopies", fn := fun _ => fun
  | [d1, d2, d3] => { results := [.lit (.bool false)], args := [d1, d2, d3] }
  | _ => none }
def AtomCopiesWrongFalsely : Prop := atomCopiesRow.holds Tryd.pinned (OpenSpec.ofChange atomCopiesWrong)

/-- 'donjonlaw11.AtomKeeps': WHATEVER THE INPUT: true; the input reads as it did. -/
def atomKeepsSpec : ChangeSpec := { name := "atomKeeps", fn := fun _ => fun
  | [d1, d2] => { results := [.lit (.bool true)], args := [d1, d2] }
  | _ => none }
def atomKeepsRow : OpenClaim := { program := "ytfiangiajhdhcaadoor", sum := "e7e8ed9def1fe99149f0dca5eee50120d7a60b72811203627f2cf34760a08122", func := "donjon/donjonlaw11.AtomKeeps", spec := "atomKeeps", unfollowed := true, recurses := true, named := ["donjon/isa.ops"], apart := false, laid := [("donjon/isa.ops", laid_donjon_isa_ops)] }
def AtomKeepsSaid : Prop := atomKeepsRow.holds Tryd.pinned (OpenSpec.ofChange atomKeepsSpec)

/-- ITS FALSE NEIGHBOUR: 'it returns false'. Refute it at one input. -/
def atomKeepsWrong : ChangeSpec := { name := "atomKeeps", fn := fun _ => fun
  | [d1, d2] => { results := [.lit (.bool false)], args := [d1, d2] }
  | _ => none }
def AtomKeepsWrongFalsely : Prop := atomKeepsRow.holds Tryd.pinned (OpenSpec.ofChange atomKeepsWrong)

/-- 'donjonlaw11.AtomApart': WHATEVER THE INPUT: true; the input reads as it did. -/
def atomApartSpec : ChangeSpec := { name := "atomApart", fn := fun _ => fun
  | [d1, d2, d3] => { results := [.lit (.bool true)], args := [d1, d2, d3] }
  | _ => none }
def atomApartRow : OpenClaim := { program := "ytfiangiajhdhcaadoor", sum := "e7e8ed9def1fe99149f0dca5eee50120d7a60b72811203627f2cf34760a08122", func := "donjon/donjonlaw11.AtomApart", spec := "atomApart", unfollowed := true, recurses := true, named := ["donjon/isa.ops"], apart := false, laid := [("donjon/isa.ops", laid_donjon_isa_ops)] }
def AtomApartSaid : Prop := atomApartRow.holds Tryd.pinned (OpenSpec.ofChange atomApartSpec)

/-- ITS FALSE NEIGHBOUR: 'it returns false'. Refute it at one input. -/
def atomApartWrong : ChangeSpec := { name := "atomApart", fn := fun _ => fun
  | [d1, d2, d3] => { results := [.lit (.bool false)], args := [d1, d2, d3] }
  | _ => none }
def AtomApartWrongFalsely : Prop := atomApartRow.holds Tryd.pinned (OpenSpec.ofChange atomApartWrong)

/-- 'donjonlaw11.AtomNil': WHATEVER THE INPUT: true; the input reads as it did. -/
def atomNilSpec : ChangeSpec := { name := "atomNil", fn := fun _ => fun
  | [d1, d2] => { results := [.lit (.bool true)], args := [d1, d2] }
  | _ => none }
def atomNilRow : OpenClaim := { program := "ytfiangiajhdhcaadoor", sum := "e7e8ed9def1fe99149f0dca5eee50120d7a60b72811203627f2cf34760a08122", func := "donjon/donjonlaw11.AtomNil", spec := "atomNil", unfollowed := true, recurses := true, named := ["donjon/isa.ops"], apart := false, laid := [("donjon/isa.ops", laid_donjon_isa_ops)] }
def AtomNilSaid : Prop := atomNilRow.holds Tryd.pinned (OpenSpec.ofChange atomNilSpec)

/-- ITS FALSE NEIGHBOUR: 'it returns false'. Refute it at one input. -/
def atomNilWrong : ChangeSpec := { name := "atomNil", fn := fun _ => fun
  | [d1, d2] => { results := [.lit (.bool false)], args := [d1, d2] }
  | _ => none }
def AtomNilWrongFalsely : Prop := atomNilRow.holds Tryd.pinned (OpenSpec.ofChange atomNilWrong)

/-- 'donjonlaw11.AtomBusy': WHATEVER THE INPUT: true; the input reads as it did. -/
def atomBusySpec : ChangeSpec := { name := "atomBusy", fn := fun _ => fun
  | [d1, d2, d3] => { results := [.lit (.bool true)], args := [d1, d2, d3] }
  | _ => none }
def atomBusyRow : OpenClaim := { program := "ytfiangiajhdhcaadoor", sum := "e7e8ed9def1fe99149f0dca5eee50120d7a60b72811203627f2cf34760a08122", func := "donjon/donjonlaw11.AtomBusy", spec := "atomBusy", unfollowed := true, recurses := true, named := ["donjon/isa.ops"], apart := false, laid := [("donjon/isa.ops", laid_donjon_isa_ops)] }
def AtomBusySaid : Prop := atomBusyRow.holds Tryd.pinned (OpenSpec.ofChange atomBusySpec)

/-- ITS FALSE NEIGHBOUR: 'it returns false'. Refute it at one input. -/
def atomBusyWrong : ChangeSpec := { name := "atomBusy", fn := fun _ => fun
  | [d1, d2, d3] => { results := [.lit (.bool false)], args := [d1, d2, d3] }
  | _ => none }
def AtomBusyWrongFalsely : Prop := atomBusyRow.holds Tryd.pinned (OpenSpec.ofChange atomBusyWrong)

/-- 'donjonlaw15.CoreRuns': WHATEVER THE INPUT: true; the input reads as it did. -/
def coreRunsSpec : ChangeSpec := { name := "coreRuns", fn := fun _ => fun
  | [d1, d2, d3] => { results := [.lit (.bool true)], args := [d1, d2, d3] }
  | _ => none }
def coreRunsRow : OpenClaim := { program := "ytfiangiajhdhcaadoor", sum := "e7e8ed9def1fe99149f0dca5eee50120d7a60b72811203627f2cf34760a08122", func := "donjon/donjonlaw15.CoreRuns", spec := "coreRuns", unfollowed := true, recurses := true, named := ["donjon/isa.ops"], apart := false, laid := [("donjon/isa.ops", laid_donjon_isa_ops)] }
def CoreRunsSaid : Prop := coreRunsRow.holds Tryd.pinned (OpenSpec.ofChange coreRunsSpec)

/-- ITS FALSE NEIGHBOUR: 'it returns false'. Refute it at one input. -/
def coreRunsWrong : ChangeSpec := { name := "coreRuns", fn := fun _ => fun
  | [d1, d2, d3] => { results := [.lit (.bool false)], args := [d1, d2, d3] }
  | _ => none }
def CoreRunsWrongFalsely : Prop := coreRunsRow.holds Tryd.pinned (OpenSpec.ofChange coreRunsWrong)

/-- 'donjonlaw15.CoreNews': WHATEVER THE INPUT: true; the input reads as it did. -/
def coreNewsSpec : ChangeSpec := { name := "coreNews", fn := fun _ => fun
  | [d1, d2, d3] => { results := [.lit (.bool true)], args := [d1, d2, d3] }
  | _ => none }
def coreNewsRow : OpenClaim := { program := "ytfiangiajhdhcaadoor", sum := "e7e8ed9def1fe99149f0dca5eee50120d7a60b72811203627f2cf34760a08122", func := "donjon/donjonlaw15.CoreNews", spec := "coreNews", unfollowed := true, recurses := true, named := ["donjon/isa.ops"], apart := false, laid := [("donjon/isa.ops", laid_donjon_isa_ops)] }
def CoreNewsSaid : Prop := coreNewsRow.holds Tryd.pinned (OpenSpec.ofChange coreNewsSpec)

/-- ITS FALSE NEIGHBOUR: 'it returns false'. Refute it at one input. -/
def coreNewsWrong : ChangeSpec := { name := "coreNews", fn := fun _ => fun
  | [d1, d2, d3] => { results := [.lit (.bool false)], args := [d1, d2, d3] }
  | _ => none }
def CoreNewsWrongFalsely : Prop := coreNewsRow.holds Tryd.pinned (OpenSpec.ofChange coreNewsWrong)

/-- 'donjonlaw15.CoreNil': WHATEVER THE INPUT: true; the input reads as it did. -/
def coreNilSpec : ChangeSpec := { name := "coreNil", fn := fun _ => fun
  | [d1, d2, d3] => { results := [.lit (.bool true)], args := [d1, d2, d3] }
  | _ => none }
def coreNilRow : OpenClaim := { program := "ytfiangiajhdhcaadoor", sum := "e7e8ed9def1fe99149f0dca5eee50120d7a60b72811203627f2cf34760a08122", func := "donjon/donjonlaw15.CoreNil", spec := "coreNil", unfollowed := true, recurses := true, named := ["donjon/isa.ops"], apart := false, laid := [("donjon/isa.ops", laid_donjon_isa_ops)] }
def CoreNilSaid : Prop := coreNilRow.holds Tryd.pinned (OpenSpec.ofChange coreNilSpec)

/-- ITS FALSE NEIGHBOUR: 'it returns false'. Refute it at one input. -/
def coreNilWrong : ChangeSpec := { name := "coreNil", fn := fun _ => fun
  | [d1, d2, d3] => { results := [.lit (.bool false)], args := [d1, d2, d3] }
  | _ => none }
def CoreNilWrongFalsely : Prop := coreNilRow.holds Tryd.pinned (OpenSpec.ofChange coreNilWrong)

/-- 'donjonlaw15.CorePlaces': WHATEVER THE INPUT: true; the input reads as it did. -/
def corePlacesSpec : ChangeSpec := { name := "corePlaces", fn := fun _ => fun
  | [d] => { results := [.lit (.bool true)], args := [d] }
  | _ => none }
def corePlacesRow : OpenClaim := { program := "ytfiangiajhdhcaadoor", sum := "e7e8ed9def1fe99149f0dca5eee50120d7a60b72811203627f2cf34760a08122", func := "donjon/donjonlaw15.CorePlaces", spec := "corePlaces", unfollowed := true, recurses := true, named := ["donjon/isa.ops"], apart := false, laid := [("donjon/isa.ops", laid_donjon_isa_ops)] }
def CorePlacesSaid : Prop := corePlacesRow.holds Tryd.pinned (OpenSpec.ofChange corePlacesSpec)

/-- ITS FALSE NEIGHBOUR: 'it returns false'. Refute it at one input. -/
def corePlacesWrong : ChangeSpec := { name := "corePlaces", fn := fun _ => fun
  | [d] => { results := [.lit (.bool false)], args := [d] }
  | _ => none }
def CorePlacesWrongFalsely : Prop := corePlacesRow.holds Tryd.pinned (OpenSpec.ofChange corePlacesWrong)

/- THE SECOND FORM. 'bulk': how many values and letters a reading holds, each counted each time it is reached (what is shared counts as often as it is met; a slice's spare places count too). A statement '..UptoSaid' is the law's where the arguments, and the package variables that the reading takes, are together of bulk at most 1048576: NARROWER than '..Said'. Prove '..Said' where nothing that the law and all that it calls make is longer than what came in: it says more and counts as full. Else prove '..UptoSaid'. A law counts once. -/
mutual
def uptoBulk {H : Type} : DataW H → Nat
  | .lit (.string bytes) => bytes.length + 1
  | .lit _ => 1
  | .nil => 1
  | .ptr d => uptoBulk d + 1
  | .slice elems spare => uptoBulkAll elems + uptoBulkAll spare + 1
  | .agg parts => uptoBulkAll parts + 1
  | .iface _ d => uptoBulk d + 1
  | .map entries => uptoBulkEntries entries + 1
  | .held _ => 1
def uptoBulkAll {H : Type} : List (DataW H) → Nat
  | [] => 0
  | d :: r => uptoBulk d + uptoBulkAll r
def uptoBulkEntries {H : Type} : List (Lit × DataW H) → Nat
  | [] => 0
  | x :: r => uptoBulkEntry x + uptoBulkEntries r
def uptoBulkEntry {H : Type} : Lit × DataW H → Nat
  | (.string bytes, d) => bytes.length + uptoBulk d + 1
  | (_, d) => uptoBulk d + 1
 end
def uptoSmall : (H : Type) → List (DataW H) → Bool := fun _ ds => decide (uptoBulkAll ds ≤ 1048576)
def OpenSpec.upto (s : _root_.Go.ChangeSpec) : _root_.Go.OpenSpec := { _root_.Go.OpenSpec.ofChange s with cond := some uptoSmall }

/-- 'donjonlaw10.IsaWorse', WHERE WHAT IT READS IS OF BULK AT MOST 1048576: true; the input reads as it did. -/
def isaWorseUptoRow : OpenClaim := { program := "ytfiangiajhdhcaadoor", sum := "e7e8ed9def1fe99149f0dca5eee50120d7a60b72811203627f2cf34760a08122", func := "donjon/donjonlaw10.IsaWorse", spec := "isaWorse", inPlace := ["internal/abi.NoEscape", "internal/bytealg.CountString", "internal/bytealg.IndexByteString", "internal/bytealg.IndexString"], unfollowed := true, recurses := true, named := ["donjon/isa.ops", "internal/strconv.uint64pow10", "math/bits.deBruijn32tab", "math/bits.deBruijn64tab", "internal/bytealg.MaxLen", "unicode/utf8.first", "unicode/utf8.acceptRanges", "strconv.ErrSyntax", "strconv.ErrRange"], apart := false, laid := [("math/bits.deBruijn32tab", laid_math_bits_deBruijn32tab), ("math/bits.deBruijn64tab", laid_math_bits_deBruijn64tab), ("internal/strconv.uint64pow10", laid_internal_strconv_uint64pow10), ("unicode/utf8.acceptRanges", laid_unicode_utf8_acceptRanges), ("strconv.ErrRange", laid_strconv_ErrRange), ("strconv.ErrSyntax", laid_strconv_ErrSyntax), ("donjon/isa.ops", laid_donjon_isa_ops), ("unicode/utf8.first", laid_unicode_utf8_first)], narrowed := true }
def IsaWorseUptoSaid : Prop := isaWorseUptoRow.holds Tryd.pinned (OpenSpec.upto isaWorseSpec)

/-- 'donjonlaw11.AtomSteps', WHERE WHAT IT READS IS OF BULK AT MOST 1048576: true; the input reads as it did. -/
def atomStepsUptoRow : OpenClaim := { program := "ytfiangiajhdhcaadoor", sum := "e7e8ed9def1fe99149f0dca5eee50120d7a60b72811203627f2cf34760a08122", func := "donjon/donjonlaw11.AtomSteps", spec := "atomSteps", unfollowed := true, recurses := true, named := ["donjon/isa.ops"], apart := false, laid := [("donjon/isa.ops", laid_donjon_isa_ops)], narrowed := true }
def AtomStepsUptoSaid : Prop := atomStepsUptoRow.holds Tryd.pinned (OpenSpec.upto atomStepsSpec)

/-- 'donjonlaw11.AtomJudges', WHERE WHAT IT READS IS OF BULK AT MOST 1048576: true; the input reads as it did. -/
def atomJudgesUptoRow : OpenClaim := { program := "ytfiangiajhdhcaadoor", sum := "e7e8ed9def1fe99149f0dca5eee50120d7a60b72811203627f2cf34760a08122", func := "donjon/donjonlaw11.AtomJudges", spec := "atomJudges", unfollowed := true, recurses := true, named := ["donjon/isa.ops"], apart := false, laid := [("donjon/isa.ops", laid_donjon_isa_ops)], narrowed := true }
def AtomJudgesUptoSaid : Prop := atomJudgesUptoRow.holds Tryd.pinned (OpenSpec.upto atomJudgesSpec)

/-- 'donjonlaw11.AtomCopies', WHERE WHAT IT READS IS OF BULK AT MOST 1048576: true; the input reads as it did. -/
def atomCopiesUptoRow : OpenClaim := { program := "ytfiangiajhdhcaadoor", sum := "e7e8ed9def1fe99149f0dca5eee50120d7a60b72811203627f2cf34760a08122", func := "donjon/donjonlaw11.AtomCopies", spec := "atomCopies", unfollowed := true, recurses := true, named := ["donjon/isa.ops"], apart := false, laid := [("donjon/isa.ops", laid_donjon_isa_ops)], narrowed := true }
def AtomCopiesUptoSaid : Prop := atomCopiesUptoRow.holds Tryd.pinned (OpenSpec.upto atomCopiesSpec)

/-- 'donjonlaw11.AtomKeeps', WHERE WHAT IT READS IS OF BULK AT MOST 1048576: true; the input reads as it did. -/
def atomKeepsUptoRow : OpenClaim := { program := "ytfiangiajhdhcaadoor", sum := "e7e8ed9def1fe99149f0dca5eee50120d7a60b72811203627f2cf34760a08122", func := "donjon/donjonlaw11.AtomKeeps", spec := "atomKeeps", unfollowed := true, recurses := true, named := ["donjon/isa.ops"], apart := false, laid := [("donjon/isa.ops", laid_donjon_isa_ops)], narrowed := true }
def AtomKeepsUptoSaid : Prop := atomKeepsUptoRow.holds Tryd.pinned (OpenSpec.upto atomKeepsSpec)

/-- 'donjonlaw11.AtomApart', WHERE WHAT IT READS IS OF BULK AT MOST 1048576: true; the input reads as it did. -/
def atomApartUptoRow : OpenClaim := { program := "ytfiangiajhdhcaadoor", sum := "e7e8ed9def1fe99149f0dca5eee50120d7a60b72811203627f2cf34760a08122", func := "donjon/donjonlaw11.AtomApart", spec := "atomApart", unfollowed := true, recurses := true, named := ["donjon/isa.ops"], apart := false, laid := [("donjon/isa.ops", laid_donjon_isa_ops)], narrowed := true }
def AtomApartUptoSaid : Prop := atomApartUptoRow.holds Tryd.pinned (OpenSpec.upto atomApartSpec)

/-- 'donjonlaw11.AtomNil', WHERE WHAT IT READS IS OF BULK AT MOST 1048576: true; the input reads as it did. -/
def atomNilUptoRow : OpenClaim := { program := "ytfiangiajhdhcaadoor", sum := "e7e8ed9def1fe99149f0dca5eee50120d7a60b72811203627f2cf34760a08122", func := "donjon/donjonlaw11.AtomNil", spec := "atomNil", unfollowed := true, recurses := true, named := ["donjon/isa.ops"], apart := false, laid := [("donjon/isa.ops", laid_donjon_isa_ops)], narrowed := true }
def AtomNilUptoSaid : Prop := atomNilUptoRow.holds Tryd.pinned (OpenSpec.upto atomNilSpec)

/-- 'donjonlaw11.AtomBusy', WHERE WHAT IT READS IS OF BULK AT MOST 1048576: true; the input reads as it did. -/
def atomBusyUptoRow : OpenClaim := { program := "ytfiangiajhdhcaadoor", sum := "e7e8ed9def1fe99149f0dca5eee50120d7a60b72811203627f2cf34760a08122", func := "donjon/donjonlaw11.AtomBusy", spec := "atomBusy", unfollowed := true, recurses := true, named := ["donjon/isa.ops"], apart := false, laid := [("donjon/isa.ops", laid_donjon_isa_ops)], narrowed := true }
def AtomBusyUptoSaid : Prop := atomBusyUptoRow.holds Tryd.pinned (OpenSpec.upto atomBusySpec)

/-- 'donjonlaw15.CoreRuns', WHERE WHAT IT READS IS OF BULK AT MOST 1048576: true; the input reads as it did. -/
def coreRunsUptoRow : OpenClaim := { program := "ytfiangiajhdhcaadoor", sum := "e7e8ed9def1fe99149f0dca5eee50120d7a60b72811203627f2cf34760a08122", func := "donjon/donjonlaw15.CoreRuns", spec := "coreRuns", unfollowed := true, recurses := true, named := ["donjon/isa.ops"], apart := false, laid := [("donjon/isa.ops", laid_donjon_isa_ops)], narrowed := true }
def CoreRunsUptoSaid : Prop := coreRunsUptoRow.holds Tryd.pinned (OpenSpec.upto coreRunsSpec)

/-- 'donjonlaw15.CoreNews', WHERE WHAT IT READS IS OF BULK AT MOST 1048576: true; the input reads as it did. -/
def coreNewsUptoRow : OpenClaim := { program := "ytfiangiajhdhcaadoor", sum := "e7e8ed9def1fe99149f0dca5eee50120d7a60b72811203627f2cf34760a08122", func := "donjon/donjonlaw15.CoreNews", spec := "coreNews", unfollowed := true, recurses := true, named := ["donjon/isa.ops"], apart := false, laid := [("donjon/isa.ops", laid_donjon_isa_ops)], narrowed := true }
def CoreNewsUptoSaid : Prop := coreNewsUptoRow.holds Tryd.pinned (OpenSpec.upto coreNewsSpec)

/-- 'donjonlaw15.CoreNil', WHERE WHAT IT READS IS OF BULK AT MOST 1048576: true; the input reads as it did. -/
def coreNilUptoRow : OpenClaim := { program := "ytfiangiajhdhcaadoor", sum := "e7e8ed9def1fe99149f0dca5eee50120d7a60b72811203627f2cf34760a08122", func := "donjon/donjonlaw15.CoreNil", spec := "coreNil", unfollowed := true, recurses := true, named := ["donjon/isa.ops"], apart := false, laid := [("donjon/isa.ops", laid_donjon_isa_ops)], narrowed := true }
def CoreNilUptoSaid : Prop := coreNilUptoRow.holds Tryd.pinned (OpenSpec.upto coreNilSpec)

/-- 'donjonlaw15.CorePlaces', WHERE WHAT IT READS IS OF BULK AT MOST 1048576: true; the input reads as it did. -/
def corePlacesUptoRow : OpenClaim := { program := "ytfiangiajhdhcaadoor", sum := "e7e8ed9def1fe99149f0dca5eee50120d7a60b72811203627f2cf34760a08122", func := "donjon/donjonlaw15.CorePlaces", spec := "corePlaces", unfollowed := true, recurses := true, named := ["donjon/isa.ops"], apart := false, laid := [("donjon/isa.ops", laid_donjon_isa_ops)], narrowed := true }
def CorePlacesUptoSaid : Prop := corePlacesUptoRow.holds Tryd.pinned (OpenSpec.upto corePlacesSpec)

end Rows
end Go.Proofs.YtfiangiajhdhcaaDoor
