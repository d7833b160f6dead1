/-
  NARROWER THAN 'FOR EVERY INPUT', by the rows' own cells (each row's printed sentence says how): NumsBin: laid · NumsPower: laid · NumsCalls: laid · NumsWhole: laid · NumsRounds: laid · NumsTurns: laid · TopRatio: laid.
  DERIVED. THE GIVEN ROWS OF THIS SEAT. 7 by the template 'for every input the law returns true; each argument reads behind the call as it read before'; 0 by the template 'total and deterministic' (their statements: YtbeijnflfmjgfaaGreatDoorTotals.lean).
  GIVEN WITH THE SEED: the statements are not yours to turn. If you find one false, say at which input.
  Laid BY PROGRAM, IN A SANDBOX (cutbox-rows.mjs): the forced cells as the released guide's own fill.sh prints them over the translation 84dac9d27007604e… (all of the seat's roots in one cut). By AI agents, Wed Nov 11 2026. No macro, syntax, notation, axiom, sorry.
-/
import Derived.Test.YtbeijnflfmjgfaaGreatDoorChecked
import GoSem.PinnedTables
import GoSem.Claim
import GoSem.ClaimJoined
import GoSem.ClaimMapViews
import Derived.JoinedTies
import Derived.KernelRfl
namespace Go.Proofs.YtbeijnflfmjgfaaGreatDoor
/- THE CELL 'sum', in the pinned program and in every row, IS THE sha256 OF THE DUMP (.gsa) THAT YtbeijnflfmjgfaaGreatDoorProg.lean LOADS. Nothing in Lean hashes anything: it is a label: what it is worth is what the hold of that sum in a sandbox is worth. -/
noncomputable def Tryz.pinned : Pinned := { name := "ytbeijnflfmjgfaagreatdoor", sum := "84dac9d27007604ecfda5761204aeb14d36b649f55e4cb9711b3c57374f69c29", checked := Tryz.checked }
namespace Rows
def none {H : Type} : Left H := { results := [], args := [] }

/- WHAT THE LISTED PACKAGE-LEVEL VARIABLES READ AS WHEN THE CALL BEGINS. Each datum BY PROGRAM (the guide's laid-datum.mjs) off the statement by which the dump's own 'gosem.cut.vars' lays the variable. In a bare row this is a premise. The card (YtbeijnflfmjgfaaGreatDoorCards.lean) ties it to the program's text. -/
def laid_math_bits_deBruijn32tab {H : Type} : DataW H := .agg [.lit (.int .u8 0), .lit (.int .u8 1), .lit (.int .u8 28), .lit (.int .u8 2), .lit (.int .u8 29), .lit (.int .u8 14), .lit (.int .u8 24), .lit (.int .u8 3), .lit (.int .u8 30), .lit (.int .u8 22), .lit (.int .u8 20), .lit (.int .u8 15), .lit (.int .u8 25), .lit (.int .u8 17), .lit (.int .u8 4), .lit (.int .u8 8), .lit (.int .u8 31), .lit (.int .u8 27), .lit (.int .u8 13), .lit (.int .u8 23), .lit (.int .u8 21), .lit (.int .u8 19), .lit (.int .u8 16), .lit (.int .u8 7), .lit (.int .u8 26), .lit (.int .u8 12), .lit (.int .u8 18), .lit (.int .u8 6), .lit (.int .u8 11), .lit (.int .u8 5), .lit (.int .u8 10), .lit (.int .u8 9)]
def laid_math_bits_deBruijn64tab {H : Type} : DataW H := .agg [.lit (.int .u8 0), .lit (.int .u8 1), .lit (.int .u8 56), .lit (.int .u8 2), .lit (.int .u8 57), .lit (.int .u8 49), .lit (.int .u8 28), .lit (.int .u8 3), .lit (.int .u8 61), .lit (.int .u8 58), .lit (.int .u8 42), .lit (.int .u8 50), .lit (.int .u8 38), .lit (.int .u8 29), .lit (.int .u8 17), .lit (.int .u8 4), .lit (.int .u8 62), .lit (.int .u8 47), .lit (.int .u8 59), .lit (.int .u8 36), .lit (.int .u8 45), .lit (.int .u8 43), .lit (.int .u8 51), .lit (.int .u8 22), .lit (.int .u8 53), .lit (.int .u8 39), .lit (.int .u8 33), .lit (.int .u8 30), .lit (.int .u8 24), .lit (.int .u8 18), .lit (.int .u8 12), .lit (.int .u8 5), .lit (.int .u8 63), .lit (.int .u8 55), .lit (.int .u8 48), .lit (.int .u8 27), .lit (.int .u8 60), .lit (.int .u8 41), .lit (.int .u8 37), .lit (.int .u8 16), .lit (.int .u8 46), .lit (.int .u8 35), .lit (.int .u8 44), .lit (.int .u8 21), .lit (.int .u8 52), .lit (.int .u8 32), .lit (.int .u8 23), .lit (.int .u8 11), .lit (.int .u8 54), .lit (.int .u8 26), .lit (.int .u8 40), .lit (.int .u8 15), .lit (.int .u8 34), .lit (.int .u8 20), .lit (.int .u8 31), .lit (.int .u8 10), .lit (.int .u8 25), .lit (.int .u8 14), .lit (.int .u8 19), .lit (.int .u8 9), .lit (.int .u8 13), .lit (.int .u8 8), .lit (.int .u8 7), .lit (.int .u8 6)]
def laid_internal_strconv_uint64pow10 {H : Type} : DataW H := .agg [.lit (.int .u64 1), .lit (.int .u64 10), .lit (.int .u64 100), .lit (.int .u64 1000), .lit (.int .u64 10000), .lit (.int .u64 100000), .lit (.int .u64 1000000), .lit (.int .u64 10000000), .lit (.int .u64 100000000), .lit (.int .u64 1000000000), .lit (.int .u64 10000000000), .lit (.int .u64 100000000000), .lit (.int .u64 1000000000000), .lit (.int .u64 10000000000000), .lit (.int .u64 100000000000000), .lit (.int .u64 1000000000000000), .lit (.int .u64 10000000000000000), .lit (.int .u64 100000000000000000), .lit (.int .u64 1000000000000000000), .lit (.int .u64 10000000000000000000)]
def laid_unicode_utf8_acceptRanges {H : Type} : DataW H := .agg [.agg [.lit (.int .u8 128), .lit (.int .u8 191)], .agg [.lit (.int .u8 160), .lit (.int .u8 191)], .agg [.lit (.int .u8 128), .lit (.int .u8 159)], .agg [.lit (.int .u8 144), .lit (.int .u8 191)], .agg [.lit (.int .u8 128), .lit (.int .u8 143)], .agg [.lit (.int .u8 0), .lit (.int .u8 0)], .agg [.lit (.int .u8 0), .lit (.int .u8 0)], .agg [.lit (.int .u8 0), .lit (.int .u8 0)], .agg [.lit (.int .u8 0), .lit (.int .u8 0)], .agg [.lit (.int .u8 0), .lit (.int .u8 0)], .agg [.lit (.int .u8 0), .lit (.int .u8 0)], .agg [.lit (.int .u8 0), .lit (.int .u8 0)], .agg [.lit (.int .u8 0), .lit (.int .u8 0)], .agg [.lit (.int .u8 0), .lit (.int .u8 0)], .agg [.lit (.int .u8 0), .lit (.int .u8 0)], .agg [.lit (.int .u8 0), .lit (.int .u8 0)]]
def laid_lattice_value_signs {H : Type} : DataW H := .agg [.lit (.string []), .lit (.string [35, 68, 73, 86, 47, 48, 33]), .lit (.string [35, 78, 85, 77, 33]), .lit (.string [35, 86, 65, 76, 85, 69, 33]), .lit (.string [35, 82, 69, 70, 33]), .lit (.string [35, 78, 65, 77, 69, 63]), .lit (.string [35, 78, 47, 65]), .lit (.string [35, 67, 89, 67, 76, 69, 33]), .lit (.string [35, 76, 73, 78, 75, 33])]
/-- One of Go's own tables, pinned by name: the form's constant. -/
def laid_unicode_utf8_first : DataW Unit := Go.Pinned.utf8First

/-- 'latticelaw09.NumsBin': WHATEVER THE INPUT: true; the input reads as it did. -/
def numsBinSpec : ChangeSpec := { name := "numsBin", fn := fun _ => fun
  | [d1, d2, d3] => { results := [.lit (.bool true)], args := [d1, d2, d3] }
  | _ => none }
def numsBinRow : OpenClaim := { program := "ytbeijnflfmjgfaagreatdoor", sum := "84dac9d27007604ecfda5761204aeb14d36b649f55e4cb9711b3c57374f69c29", func := "lattice/latticelaw09.NumsBin", spec := "numsBin", inPlace := ["internal/bytealg.IndexByteString", "internal/bytealg.IndexString", "internal/bytealg.abigen_runtime_cmpstring", "math.Float64bits", "math.Float64frombits", "math/bits.Add64"], unfollowed := true, recurses := true, named := ["math/bits.divideError", "math/bits.overflowError", "unicode/utf8.first", "unicode/utf8.acceptRanges", "internal/bytealg.MaxLen", "internal/strconv.uint64pow10", "math/bits.deBruijn32tab", "math/bits.deBruijn64tab", "lattice/value.signs"], apart := false, laid := [("math/bits.deBruijn32tab", laid_math_bits_deBruijn32tab), ("math/bits.deBruijn64tab", laid_math_bits_deBruijn64tab), ("internal/strconv.uint64pow10", laid_internal_strconv_uint64pow10), ("unicode/utf8.acceptRanges", laid_unicode_utf8_acceptRanges), ("lattice/value.signs", laid_lattice_value_signs), ("unicode/utf8.first", laid_unicode_utf8_first)] }
def NumsBinSaid : Prop := numsBinRow.holds Tryz.pinned (OpenSpec.ofChange numsBinSpec)

/-- ITS FALSE NEIGHBOUR: 'it returns false'. Refute it at one input. -/
def numsBinWrong : ChangeSpec := { name := "numsBin", fn := fun _ => fun
  | [d1, d2, d3] => { results := [.lit (.bool false)], args := [d1, d2, d3] }
  | _ => none }
def NumsBinWrongFalsely : Prop := numsBinRow.holds Tryz.pinned (OpenSpec.ofChange numsBinWrong)

/-- 'latticelaw09.NumsPower': WHATEVER THE INPUT: true; the input reads as it did. -/
def numsPowerSpec : ChangeSpec := { name := "numsPower", fn := fun _ => fun
  | [d1, d2] => { results := [.lit (.bool true)], args := [d1, d2] }
  | _ => none }
def numsPowerRow : OpenClaim := { program := "ytbeijnflfmjgfaagreatdoor", sum := "84dac9d27007604ecfda5761204aeb14d36b649f55e4cb9711b3c57374f69c29", func := "lattice/latticelaw09.NumsPower", spec := "numsPower", inPlace := ["internal/bytealg.IndexByteString", "internal/bytealg.IndexString", "internal/bytealg.abigen_runtime_cmpstring", "math.Float64bits", "math.Float64frombits", "math/bits.Add64"], unfollowed := true, recurses := true, named := ["math/bits.divideError", "math/bits.overflowError", "unicode/utf8.first", "unicode/utf8.acceptRanges", "internal/bytealg.MaxLen", "internal/strconv.uint64pow10", "math/bits.deBruijn32tab", "math/bits.deBruijn64tab", "lattice/value.signs"], apart := false, laid := [("math/bits.deBruijn32tab", laid_math_bits_deBruijn32tab), ("math/bits.deBruijn64tab", laid_math_bits_deBruijn64tab), ("internal/strconv.uint64pow10", laid_internal_strconv_uint64pow10), ("unicode/utf8.acceptRanges", laid_unicode_utf8_acceptRanges), ("lattice/value.signs", laid_lattice_value_signs), ("unicode/utf8.first", laid_unicode_utf8_first)] }
def NumsPowerSaid : Prop := numsPowerRow.holds Tryz.pinned (OpenSpec.ofChange numsPowerSpec)

/-- ITS FALSE NEIGHBOUR: 'it returns false'. Refute it at one input. -/
def numsPowerWrong : ChangeSpec := { name := "numsPower", fn := fun _ => fun
  | [d1, d2] => { results := [.lit (.bool false)], args := [d1, d2] }
  | _ => none }
def NumsPowerWrongFalsely : Prop := numsPowerRow.holds Tryz.pinned (OpenSpec.ofChange numsPowerWrong)

/-- 'latticelaw09.NumsCalls': WHATEVER THE INPUT: true; the input reads as it did. -/
def numsCallsSpec : ChangeSpec := { name := "numsCalls", fn := fun _ => fun
  | [d1, d2] => { results := [.lit (.bool true)], args := [d1, d2] }
  | _ => none }
def numsCallsRow : OpenClaim := { program := "ytbeijnflfmjgfaagreatdoor", sum := "84dac9d27007604ecfda5761204aeb14d36b649f55e4cb9711b3c57374f69c29", func := "lattice/latticelaw09.NumsCalls", spec := "numsCalls", inPlace := ["math.Float64bits", "math.Float64frombits", "math/bits.Add64", "internal/bytealg.IndexByteString", "internal/bytealg.IndexString", "internal/bytealg.abigen_runtime_cmpstring"], unfollowed := true, recurses := true, named := ["math/bits.divideError", "math/bits.overflowError", "unicode/utf8.first", "unicode/utf8.acceptRanges", "internal/bytealg.MaxLen", "internal/strconv.uint64pow10", "math/bits.deBruijn32tab", "math/bits.deBruijn64tab", "lattice/value.signs"], apart := false, laid := [("math/bits.deBruijn32tab", laid_math_bits_deBruijn32tab), ("math/bits.deBruijn64tab", laid_math_bits_deBruijn64tab), ("internal/strconv.uint64pow10", laid_internal_strconv_uint64pow10), ("unicode/utf8.acceptRanges", laid_unicode_utf8_acceptRanges), ("lattice/value.signs", laid_lattice_value_signs), ("unicode/utf8.first", laid_unicode_utf8_first)] }
def NumsCallsSaid : Prop := numsCallsRow.holds Tryz.pinned (OpenSpec.ofChange numsCallsSpec)

/-- ITS FALSE NEIGHBOUR: 'it returns false'. Refute it at one input. -/
def numsCallsWrong : ChangeSpec := { name := "numsCalls", fn := fun _ => fun
  | [d1, d2] => { results := [.lit (.bool false)], args := [d1, d2] }
  | _ => none }
def NumsCallsWrongFalsely : Prop := numsCallsRow.holds Tryz.pinned (OpenSpec.ofChange numsCallsWrong)

/-- 'latticelaw09.NumsWhole': WHATEVER THE INPUT: true; the input reads as it did. -/
def numsWholeSpec : ChangeSpec := { name := "numsWhole", fn := fun _ => fun
  | [d1, d2] => { results := [.lit (.bool true)], args := [d1, d2] }
  | _ => none }
def numsWholeRow : OpenClaim := { program := "ytbeijnflfmjgfaagreatdoor", sum := "84dac9d27007604ecfda5761204aeb14d36b649f55e4cb9711b3c57374f69c29", func := "lattice/latticelaw09.NumsWhole", spec := "numsWhole", inPlace := ["math.Float64bits", "math.Float64frombits", "math/bits.Add64", "internal/bytealg.IndexByteString", "internal/bytealg.IndexString", "internal/bytealg.abigen_runtime_cmpstring"], unfollowed := true, recurses := true, named := ["math/bits.divideError", "math/bits.overflowError", "unicode/utf8.first", "unicode/utf8.acceptRanges", "internal/bytealg.MaxLen", "internal/strconv.uint64pow10", "math/bits.deBruijn32tab", "math/bits.deBruijn64tab", "lattice/value.signs"], apart := false, laid := [("math/bits.deBruijn32tab", laid_math_bits_deBruijn32tab), ("math/bits.deBruijn64tab", laid_math_bits_deBruijn64tab), ("internal/strconv.uint64pow10", laid_internal_strconv_uint64pow10), ("unicode/utf8.acceptRanges", laid_unicode_utf8_acceptRanges), ("lattice/value.signs", laid_lattice_value_signs), ("unicode/utf8.first", laid_unicode_utf8_first)] }
def NumsWholeSaid : Prop := numsWholeRow.holds Tryz.pinned (OpenSpec.ofChange numsWholeSpec)

/-- ITS FALSE NEIGHBOUR: 'it returns false'. Refute it at one input. -/
def numsWholeWrong : ChangeSpec := { name := "numsWhole", fn := fun _ => fun
  | [d1, d2] => { results := [.lit (.bool false)], args := [d1, d2] }
  | _ => none }
def NumsWholeWrongFalsely : Prop := numsWholeRow.holds Tryz.pinned (OpenSpec.ofChange numsWholeWrong)

/-- 'latticelaw09.NumsRounds': WHATEVER THE INPUT: true; the input reads as it did. -/
def numsRoundsSpec : ChangeSpec := { name := "numsRounds", fn := fun _ => fun
  | [d1, d2] => { results := [.lit (.bool true)], args := [d1, d2] }
  | _ => none }
def numsRoundsRow : OpenClaim := { program := "ytbeijnflfmjgfaagreatdoor", sum := "84dac9d27007604ecfda5761204aeb14d36b649f55e4cb9711b3c57374f69c29", func := "lattice/latticelaw09.NumsRounds", spec := "numsRounds", inPlace := ["math.Float64bits", "math.Float64frombits", "math/bits.Add64", "internal/bytealg.IndexByteString", "internal/bytealg.IndexString", "internal/bytealg.abigen_runtime_cmpstring"], unfollowed := true, recurses := true, named := ["math/bits.divideError", "math/bits.overflowError", "unicode/utf8.first", "unicode/utf8.acceptRanges", "internal/bytealg.MaxLen", "internal/strconv.uint64pow10", "math/bits.deBruijn32tab", "math/bits.deBruijn64tab", "lattice/value.signs"], apart := false, laid := [("math/bits.deBruijn32tab", laid_math_bits_deBruijn32tab), ("math/bits.deBruijn64tab", laid_math_bits_deBruijn64tab), ("internal/strconv.uint64pow10", laid_internal_strconv_uint64pow10), ("unicode/utf8.acceptRanges", laid_unicode_utf8_acceptRanges), ("lattice/value.signs", laid_lattice_value_signs), ("unicode/utf8.first", laid_unicode_utf8_first)] }
def NumsRoundsSaid : Prop := numsRoundsRow.holds Tryz.pinned (OpenSpec.ofChange numsRoundsSpec)

/-- ITS FALSE NEIGHBOUR: 'it returns false'. Refute it at one input. -/
def numsRoundsWrong : ChangeSpec := { name := "numsRounds", fn := fun _ => fun
  | [d1, d2] => { results := [.lit (.bool false)], args := [d1, d2] }
  | _ => none }
def NumsRoundsWrongFalsely : Prop := numsRoundsRow.holds Tryz.pinned (OpenSpec.ofChange numsRoundsWrong)

/-- 'latticelaw09.NumsTurns': WHATEVER THE INPUT: true; the input reads as it did. -/
def numsTurnsSpec : ChangeSpec := { name := "numsTurns", fn := fun _ => fun
  | [d1, d2] => { results := [.lit (.bool true)], args := [d1, d2] }
  | _ => none }
def numsTurnsRow : OpenClaim := { program := "ytbeijnflfmjgfaagreatdoor", sum := "84dac9d27007604ecfda5761204aeb14d36b649f55e4cb9711b3c57374f69c29", func := "lattice/latticelaw09.NumsTurns", spec := "numsTurns", inPlace := ["internal/bytealg.IndexByteString", "internal/bytealg.IndexString", "internal/bytealg.abigen_runtime_cmpstring", "math.Float64bits", "math.Float64frombits", "math/bits.Add64"], unfollowed := true, recurses := true, named := ["math/bits.divideError", "math/bits.overflowError", "unicode/utf8.first", "unicode/utf8.acceptRanges", "internal/bytealg.MaxLen", "internal/strconv.uint64pow10", "math/bits.deBruijn32tab", "math/bits.deBruijn64tab", "lattice/value.signs"], apart := false, laid := [("math/bits.deBruijn32tab", laid_math_bits_deBruijn32tab), ("math/bits.deBruijn64tab", laid_math_bits_deBruijn64tab), ("internal/strconv.uint64pow10", laid_internal_strconv_uint64pow10), ("unicode/utf8.acceptRanges", laid_unicode_utf8_acceptRanges), ("lattice/value.signs", laid_lattice_value_signs), ("unicode/utf8.first", laid_unicode_utf8_first)] }
def NumsTurnsSaid : Prop := numsTurnsRow.holds Tryz.pinned (OpenSpec.ofChange numsTurnsSpec)

/-- ITS FALSE NEIGHBOUR: 'it returns false'. Refute it at one input. -/
def numsTurnsWrong : ChangeSpec := { name := "numsTurns", fn := fun _ => fun
  | [d1, d2] => { results := [.lit (.bool false)], args := [d1, d2] }
  | _ => none }
def NumsTurnsWrongFalsely : Prop := numsTurnsRow.holds Tryz.pinned (OpenSpec.ofChange numsTurnsWrong)

/-- 'latticetop.TopRatio': WHATEVER THE INPUT: true; the input reads as it did. -/
def topRatioSpec : ChangeSpec := { name := "topRatio", fn := fun _ => fun
  | [d1, d2] => { results := [.lit (.bool true)], args := [d1, d2] }
  | _ => none }
def topRatioRow : OpenClaim := { program := "ytbeijnflfmjgfaagreatdoor", sum := "84dac9d27007604ecfda5761204aeb14d36b649f55e4cb9711b3c57374f69c29", func := "lattice/latticetop.TopRatio", spec := "topRatio", inPlace := ["math.Float64bits", "math.Float64frombits", "math/bits.Add64", "internal/bytealg.IndexByteString", "internal/bytealg.IndexString", "internal/bytealg.abigen_runtime_cmpstring"], unfollowed := true, recurses := true, named := ["math/bits.divideError", "math/bits.overflowError", "unicode/utf8.first", "unicode/utf8.acceptRanges", "internal/bytealg.MaxLen", "internal/strconv.uint64pow10", "math/bits.deBruijn32tab", "math/bits.deBruijn64tab", "lattice/value.signs"], apart := false, laid := [("math/bits.deBruijn32tab", laid_math_bits_deBruijn32tab), ("math/bits.deBruijn64tab", laid_math_bits_deBruijn64tab), ("internal/strconv.uint64pow10", laid_internal_strconv_uint64pow10), ("unicode/utf8.acceptRanges", laid_unicode_utf8_acceptRanges), ("lattice/value.signs", laid_lattice_value_signs), ("unicode/utf8.first", laid_unicode_utf8_first)] }
def TopRatioSaid : Prop := topRatioRow.holds Tryz.pinned (OpenSpec.ofChange topRatioSpec)

/-- ITS FALSE NEIGHBOUR: 'it returns false'. Refute it at one input. -/
def topRatioWrong : ChangeSpec := { name := "topRatio", fn := fun _ => fun
  | [d1, d2] => { results := [.lit (.bool false)], args := [d1, d2] }
  | _ => none }
def TopRatioWrongFalsely : Prop := topRatioRow.holds Tryz.pinned (OpenSpec.ofChange topRatioWrong)

/- THE SECOND FORM. 'bulk': how many values and letters a reading holds, each counted each time it is reached (what is shared counts as often as it is met; a slice's spare places count too). A statement '..UptoSaid' is the law's where the arguments, and the package variables that the reading takes, are together of bulk at most 1048576: NARROWER than '..Said'. Prove '..Said' where nothing that the law and all that it calls make is longer than what came in: it says more and counts as full. Else prove '..UptoSaid'. A law counts once. -/
mutual
def uptoBulk {H : Type} : DataW H → Nat
  | .lit (.string bytes) => bytes.length + 1
  | .lit _ => 1
  | .nil => 1
  | .ptr d => uptoBulk d + 1
  | .slice elems spare => uptoBulkAll elems + uptoBulkAll spare + 1
  | .agg parts => uptoBulkAll parts + 1
  | .iface _ d => uptoBulk d + 1
  | .map entries => uptoBulkEntries entries + 1
  | .held _ => 1
def uptoBulkAll {H : Type} : List (DataW H) → Nat
  | [] => 0
  | d :: r => uptoBulk d + uptoBulkAll r
def uptoBulkEntries {H : Type} : List (Lit × DataW H) → Nat
  | [] => 0
  | x :: r => uptoBulkEntry x + uptoBulkEntries r
def uptoBulkEntry {H : Type} : Lit × DataW H → Nat
  | (.string bytes, d) => bytes.length + uptoBulk d + 1
  | (_, d) => uptoBulk d + 1
 end
def uptoSmall : (H : Type) → List (DataW H) → Bool := fun _ ds => decide (uptoBulkAll ds ≤ 1048576)
def OpenSpec.upto (s : _root_.Go.ChangeSpec) : _root_.Go.OpenSpec := { _root_.Go.OpenSpec.ofChange s with cond := some uptoSmall }

/-- 'latticelaw09.NumsBin', WHERE WHAT IT READS IS OF BULK AT MOST 1048576: true; the input reads as it did. -/
def numsBinUptoRow : OpenClaim := { program := "ytbeijnflfmjgfaagreatdoor", sum := "84dac9d27007604ecfda5761204aeb14d36b649f55e4cb9711b3c57374f69c29", func := "lattice/latticelaw09.NumsBin", spec := "numsBin", inPlace := ["internal/bytealg.IndexByteString", "internal/bytealg.IndexString", "internal/bytealg.abigen_runtime_cmpstring", "math.Float64bits", "math.Float64frombits", "math/bits.Add64"], unfollowed := true, recurses := true, named := ["math/bits.divideError", "math/bits.overflowError", "unicode/utf8.first", "unicode/utf8.acceptRanges", "internal/bytealg.MaxLen", "internal/strconv.uint64pow10", "math/bits.deBruijn32tab", "math/bits.deBruijn64tab", "lattice/value.signs"], apart := false, laid := [("math/bits.deBruijn32tab", laid_math_bits_deBruijn32tab), ("math/bits.deBruijn64tab", laid_math_bits_deBruijn64tab), ("internal/strconv.uint64pow10", laid_internal_strconv_uint64pow10), ("unicode/utf8.acceptRanges", laid_unicode_utf8_acceptRanges), ("lattice/value.signs", laid_lattice_value_signs), ("unicode/utf8.first", laid_unicode_utf8_first)], narrowed := true }
def NumsBinUptoSaid : Prop := numsBinUptoRow.holds Tryz.pinned (OpenSpec.upto numsBinSpec)

/-- 'latticelaw09.NumsPower', WHERE WHAT IT READS IS OF BULK AT MOST 1048576: true; the input reads as it did. -/
def numsPowerUptoRow : OpenClaim := { program := "ytbeijnflfmjgfaagreatdoor", sum := "84dac9d27007604ecfda5761204aeb14d36b649f55e4cb9711b3c57374f69c29", func := "lattice/latticelaw09.NumsPower", spec := "numsPower", inPlace := ["internal/bytealg.IndexByteString", "internal/bytealg.IndexString", "internal/bytealg.abigen_runtime_cmpstring", "math.Float64bits", "math.Float64frombits", "math/bits.Add64"], unfollowed := true, recurses := true, named := ["math/bits.divideError", "math/bits.overflowError", "unicode/utf8.first", "unicode/utf8.acceptRanges", "internal/bytealg.MaxLen", "internal/strconv.uint64pow10", "math/bits.deBruijn32tab", "math/bits.deBruijn64tab", "lattice/value.signs"], apart := false, laid := [("math/bits.deBruijn32tab", laid_math_bits_deBruijn32tab), ("math/bits.deBruijn64tab", laid_math_bits_deBruijn64tab), ("internal/strconv.uint64pow10", laid_internal_strconv_uint64pow10), ("unicode/utf8.acceptRanges", laid_unicode_utf8_acceptRanges), ("lattice/value.signs", laid_lattice_value_signs), ("unicode/utf8.first", laid_unicode_utf8_first)], narrowed := true }
def NumsPowerUptoSaid : Prop := numsPowerUptoRow.holds Tryz.pinned (OpenSpec.upto numsPowerSpec)

/-- 'latticelaw09.NumsCalls', WHERE WHAT IT READS IS OF BULK AT MOST 1048576: true; the input reads as it did. -/
def numsCallsUptoRow : OpenClaim := { program := "ytbeijnflfmjgfaagreatdoor", sum := "84dac9d27007604ecfda5761204aeb14d36b649f55e4cb9711b3c57374f69c29", func := "lattice/latticelaw09.NumsCalls", spec := "numsCalls", inPlace := ["math.Float64bits", "math.Float64frombits", "math/bits.Add64", "internal/bytealg.IndexByteString", "internal/bytealg.IndexString", "internal/bytealg.abigen_runtime_cmpstring"], unfollowed := true, recurses := true, named := ["math/bits.divideError", "math/bits.overflowError", "unicode/utf8.first", "unicode/utf8.acceptRanges", "internal/bytealg.MaxLen", "internal/strconv.uint64pow10", "math/bits.deBruijn32tab", "math/bits.deBruijn64tab", "lattice/value.signs"], apart := false, laid := [("math/bits.deBruijn32tab", laid_math_bits_deBruijn32tab), ("math/bits.deBruijn64tab", laid_math_bits_deBruijn64tab), ("internal/strconv.uint64pow10", laid_internal_strconv_uint64pow10), ("unicode/utf8.acceptRanges", laid_unicode_utf8_acceptRanges), ("lattice/value.signs", laid_lattice_value_signs), ("unicode/utf8.first", laid_unicode_utf8_first)], narrowed := true }
def NumsCallsUptoSaid : Prop := numsCallsUptoRow.holds Tryz.pinned (OpenSpec.upto numsCallsSpec)

/-- 'latticelaw09.NumsWhole', WHERE WHAT IT READS IS OF BULK AT MOST 1048576: true; the input reads as it did. -/
def numsWholeUptoRow : OpenClaim := { program := "ytbeijnflfmjgfaagreatdoor", sum := "84dac9d27007604ecfda5761204aeb14d36b649f55e4cb9711b3c57374f69c29", func := "lattice/latticelaw09.NumsWhole", spec := "numsWhole", inPlace := ["math.Float64bits", "math.Float64frombits", "math/bits.Add64", "internal/bytealg.IndexByteString", "internal/bytealg.IndexString", "internal/bytealg.abigen_runtime_cmpstring"], unfollowed := true, recurses := true, named := ["math/bits.divideError", "math/bits.overflowError", "unicode/utf8.first", "unicode/utf8.acceptRanges", "internal/bytealg.MaxLen", "internal/strconv.uint64pow10", "math/bits.deBruijn32tab", "math/bits.deBruijn64tab", "lattice/value.signs"], apart := false, laid := [("math/bits.deBruijn32tab", laid_math_bits_deBruijn32tab), ("math/bits.deBruijn64tab", laid_math_bits_deBruijn64tab), ("internal/strconv.uint64pow10", laid_internal_strconv_uint64pow10), ("unicode/utf8.acceptRanges", laid_unicode_utf8_acceptRanges), ("lattice/value.signs", laid_lattice_value_signs), ("unicode/utf8.first", laid_unicode_utf8_first)], narrowed := true }
def NumsWholeUptoSaid : Prop := numsWholeUptoRow.holds Tryz.pinned (OpenSpec.upto numsWholeSpec)

/-- 'latticelaw09.NumsRounds', WHERE WHAT IT READS IS OF BULK AT MOST 1048576: true; the input reads as it did. -/
def numsRoundsUptoRow : OpenClaim := { program := "ytbeijnflfmjgfaagreatdoor", sum := "84dac9d27007604ecfda5761204aeb14d36b649f55e4cb9711b3c57374f69c29", func := "lattice/latticelaw09.NumsRounds", spec := "numsRounds", inPlace := ["math.Float64bits", "math.Float64frombits", "math/bits.Add64", "internal/bytealg.IndexByteString", "internal/bytealg.IndexString", "internal/bytealg.abigen_runtime_cmpstring"], unfollowed := true, recurses := true, named := ["math/bits.divideError", "math/bits.overflowError", "unicode/utf8.first", "unicode/utf8.acceptRanges", "internal/bytealg.MaxLen", "internal/strconv.uint64pow10", "math/bits.deBruijn32tab", "math/bits.deBruijn64tab", "lattice/value.signs"], apart := false, laid := [("math/bits.deBruijn32tab", laid_math_bits_deBruijn32tab), ("math/bits.deBruijn64tab", laid_math_bits_deBruijn64tab), ("internal/strconv.uint64pow10", laid_internal_strconv_uint64pow10), ("unicode/utf8.acceptRanges", laid_unicode_utf8_acceptRanges), ("lattice/value.signs", laid_lattice_value_signs), ("unicode/utf8.first", laid_unicode_utf8_first)], narrowed := true }
def NumsRoundsUptoSaid : Prop := numsRoundsUptoRow.holds Tryz.pinned (OpenSpec.upto numsRoundsSpec)

/-- 'latticelaw09.NumsTurns', WHERE WHAT IT READS IS OF BULK AT MOST 1048576: true; the input reads as it did. -/
def numsTurnsUptoRow : OpenClaim := { program := "ytbeijnflfmjgfaagreatdoor", sum := "84dac9d27007604ecfda5761204aeb14d36b649f55e4cb9711b3c57374f69c29", func := "lattice/latticelaw09.NumsTurns", spec := "numsTurns", inPlace := ["internal/bytealg.IndexByteString", "internal/bytealg.IndexString", "internal/bytealg.abigen_runtime_cmpstring", "math.Float64bits", "math.Float64frombits", "math/bits.Add64"], unfollowed := true, recurses := true, named := ["math/bits.divideError", "math/bits.overflowError", "unicode/utf8.first", "unicode/utf8.acceptRanges", "internal/bytealg.MaxLen", "internal/strconv.uint64pow10", "math/bits.deBruijn32tab", "math/bits.deBruijn64tab", "lattice/value.signs"], apart := false, laid := [("math/bits.deBruijn32tab", laid_math_bits_deBruijn32tab), ("math/bits.deBruijn64tab", laid_math_bits_deBruijn64tab), ("internal/strconv.uint64pow10", laid_internal_strconv_uint64pow10), ("unicode/utf8.acceptRanges", laid_unicode_utf8_acceptRanges), ("lattice/value.signs", laid_lattice_value_signs), ("unicode/utf8.first", laid_unicode_utf8_first)], narrowed := true }
def NumsTurnsUptoSaid : Prop := numsTurnsUptoRow.holds Tryz.pinned (OpenSpec.upto numsTurnsSpec)

/-- 'latticetop.TopRatio', WHERE WHAT IT READS IS OF BULK AT MOST 1048576: true; the input reads as it did. -/
def topRatioUptoRow : OpenClaim := { program := "ytbeijnflfmjgfaagreatdoor", sum := "84dac9d27007604ecfda5761204aeb14d36b649f55e4cb9711b3c57374f69c29", func := "lattice/latticetop.TopRatio", spec := "topRatio", inPlace := ["math.Float64bits", "math.Float64frombits", "math/bits.Add64", "internal/bytealg.IndexByteString", "internal/bytealg.IndexString", "internal/bytealg.abigen_runtime_cmpstring"], unfollowed := true, recurses := true, named := ["math/bits.divideError", "math/bits.overflowError", "unicode/utf8.first", "unicode/utf8.acceptRanges", "internal/bytealg.MaxLen", "internal/strconv.uint64pow10", "math/bits.deBruijn32tab", "math/bits.deBruijn64tab", "lattice/value.signs"], apart := false, laid := [("math/bits.deBruijn32tab", laid_math_bits_deBruijn32tab), ("math/bits.deBruijn64tab", laid_math_bits_deBruijn64tab), ("internal/strconv.uint64pow10", laid_internal_strconv_uint64pow10), ("unicode/utf8.acceptRanges", laid_unicode_utf8_acceptRanges), ("lattice/value.signs", laid_lattice_value_signs), ("unicode/utf8.first", laid_unicode_utf8_first)], narrowed := true }
def TopRatioUptoSaid : Prop := topRatioUptoRow.holds Tryz.pinned (OpenSpec.upto topRatioSpec)

end Rows
end Go.Proofs.YtbeijnflfmjgfaaGreatDoor
