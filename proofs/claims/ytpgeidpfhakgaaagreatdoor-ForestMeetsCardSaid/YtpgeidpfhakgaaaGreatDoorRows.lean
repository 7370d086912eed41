/-
  NARROWER THAN 'FOR EVERY INPUT', by the rows' own cells (each row's printed sentence says how): PrintWrites: loops, laid · PrintMoves: loops, laid · ForestLays: loops, laid · ForestOrders: loops, laid · ForestMeets: loops, laid · ForestKids: loops, laid · ForestEnds: loops, laid.
  DERIVED. THE GIVEN ROWS OF THIS SEAT. 7 by the template 'for every input the law returns true; each argument reads behind the call as it read before'; 0 by the template 'total and deterministic' (their statements: YtpgeidpfhakgaaaGreatDoorTotals.lean).
  GIVEN WITH THE SEED: the statements are not yours to turn. If you find one false, say at which input.
  Laid BY PROGRAM, IN A SANDBOX (cutbox-rows.mjs): the forced cells as the released guide's own fill.sh prints them over the translation cabe30ca9a61442b… (all of the seat's roots in one cut). By AI agents, Wed Nov 11 2026. No macro, syntax, notation, axiom, sorry.
-/
import Derived.Test.YtpgeidpfhakgaaaGreatDoorChecked
import GoSem.Claim
import GoSem.ClaimJoined
import GoSem.ClaimMapViews
import Derived.JoinedTies
import Derived.KernelRfl
namespace Go.Proofs.YtpgeidpfhakgaaaGreatDoor
/- THE CELL 'sum', in the pinned program and in every row, IS THE sha256 OF THE DUMP (.gsa) THAT YtpgeidpfhakgaaaGreatDoorProg.lean LOADS. Nothing in Lean hashes anything: it is a label: what it is worth is what the hold of that sum in a sandbox is worth. -/
noncomputable def Tryz.pinned : Pinned := { name := "ytpgeidpfhakgaaagreatdoor", sum := "cabe30ca9a61442ba4d14e579e4510ada6d67ea1644f57bb18d0d0f4d02a89d6", checked := Tryz.checked }
namespace Rows
def none {H : Type} : Left H := { results := [], args := [] }

/- WHAT THE LISTED PACKAGE-LEVEL VARIABLES READ AS WHEN THE CALL BEGINS. Each datum BY PROGRAM (the guide's laid-datum.mjs) off the statement by which the dump's own 'gosem.cut.vars' lays the variable. In a bare row this is a premise. The card (YtpgeidpfhakgaaaGreatDoorCards.lean) ties it to the program's text. -/
def laid_math_bits_deBruijn32tab {H : Type} : DataW H := .agg [.lit (.int .u8 0), .lit (.int .u8 1), .lit (.int .u8 28), .lit (.int .u8 2), .lit (.int .u8 29), .lit (.int .u8 14), .lit (.int .u8 24), .lit (.int .u8 3), .lit (.int .u8 30), .lit (.int .u8 22), .lit (.int .u8 20), .lit (.int .u8 15), .lit (.int .u8 25), .lit (.int .u8 17), .lit (.int .u8 4), .lit (.int .u8 8), .lit (.int .u8 31), .lit (.int .u8 27), .lit (.int .u8 13), .lit (.int .u8 23), .lit (.int .u8 21), .lit (.int .u8 19), .lit (.int .u8 16), .lit (.int .u8 7), .lit (.int .u8 26), .lit (.int .u8 12), .lit (.int .u8 18), .lit (.int .u8 6), .lit (.int .u8 11), .lit (.int .u8 5), .lit (.int .u8 10), .lit (.int .u8 9)]
def laid_math_bits_deBruijn64tab {H : Type} : DataW H := .agg [.lit (.int .u8 0), .lit (.int .u8 1), .lit (.int .u8 56), .lit (.int .u8 2), .lit (.int .u8 57), .lit (.int .u8 49), .lit (.int .u8 28), .lit (.int .u8 3), .lit (.int .u8 61), .lit (.int .u8 58), .lit (.int .u8 42), .lit (.int .u8 50), .lit (.int .u8 38), .lit (.int .u8 29), .lit (.int .u8 17), .lit (.int .u8 4), .lit (.int .u8 62), .lit (.int .u8 47), .lit (.int .u8 59), .lit (.int .u8 36), .lit (.int .u8 45), .lit (.int .u8 43), .lit (.int .u8 51), .lit (.int .u8 22), .lit (.int .u8 53), .lit (.int .u8 39), .lit (.int .u8 33), .lit (.int .u8 30), .lit (.int .u8 24), .lit (.int .u8 18), .lit (.int .u8 12), .lit (.int .u8 5), .lit (.int .u8 63), .lit (.int .u8 55), .lit (.int .u8 48), .lit (.int .u8 27), .lit (.int .u8 60), .lit (.int .u8 41), .lit (.int .u8 37), .lit (.int .u8 16), .lit (.int .u8 46), .lit (.int .u8 35), .lit (.int .u8 44), .lit (.int .u8 21), .lit (.int .u8 52), .lit (.int .u8 32), .lit (.int .u8 23), .lit (.int .u8 11), .lit (.int .u8 54), .lit (.int .u8 26), .lit (.int .u8 40), .lit (.int .u8 15), .lit (.int .u8 34), .lit (.int .u8 20), .lit (.int .u8 31), .lit (.int .u8 10), .lit (.int .u8 25), .lit (.int .u8 14), .lit (.int .u8 19), .lit (.int .u8 9), .lit (.int .u8 13), .lit (.int .u8 8), .lit (.int .u8 7), .lit (.int .u8 6)]
def laid_internal_strconv_uint64pow10 {H : Type} : DataW H := .agg [.lit (.int .u64 1), .lit (.int .u64 10), .lit (.int .u64 100), .lit (.int .u64 1000), .lit (.int .u64 10000), .lit (.int .u64 100000), .lit (.int .u64 1000000), .lit (.int .u64 10000000), .lit (.int .u64 100000000), .lit (.int .u64 1000000000), .lit (.int .u64 10000000000), .lit (.int .u64 100000000000), .lit (.int .u64 1000000000000), .lit (.int .u64 10000000000000), .lit (.int .u64 100000000000000), .lit (.int .u64 1000000000000000), .lit (.int .u64 10000000000000000), .lit (.int .u64 100000000000000000), .lit (.int .u64 1000000000000000000), .lit (.int .u64 10000000000000000000)]
def laid_strconv_ErrRange {H : Type} : DataW H := .iface "*errors.errorString" (.ptr (.agg [.lit (.string [118, 97, 108, 117, 101, 32, 111, 117, 116, 32, 111, 102, 32, 114, 97, 110, 103, 101])]))
def laid_strconv_ErrSyntax {H : Type} : DataW H := .iface "*errors.errorString" (.ptr (.agg [.lit (.string [105, 110, 118, 97, 108, 105, 100, 32, 115, 121, 110, 116, 97, 120])]))
def laid_pavane_scan_keywords {H : Type} : DataW H := .agg [.lit (.string [97, 102, 116, 101, 114]), .lit (.string [97, 108, 119, 97, 121, 115]), .lit (.string [99, 104, 97, 114, 116]), .lit (.string [100, 101, 101, 112]), .lit (.string [101, 109, 105, 116]), .lit (.string [101, 110, 116, 101, 114]), .lit (.string [104, 105, 115, 116, 111, 114, 121]), .lit (.string [105, 110]), .lit (.string [105, 110, 105, 116, 105, 97, 108]), .lit (.string [108, 101, 97, 118, 101]), .lit (.string [111, 110]), .lit (.string [112, 97, 114, 97, 108, 108, 101, 108]), .lit (.string [114, 97, 105, 115, 101]), .lit (.string [115, 101, 116]), .lit (.string [115, 116, 97, 116, 101]), .lit (.string [118, 97, 114])]
def laid_pavane_expr_signs {H : Type} : DataW H := .agg [.lit (.string []), .lit (.string [43]), .lit (.string [45]), .lit (.string [42]), .lit (.string [47]), .lit (.string [37]), .lit (.string [60]), .lit (.string [60, 61]), .lit (.string [62]), .lit (.string [62, 61]), .lit (.string [61, 61]), .lit (.string [33, 61]), .lit (.string [38, 38]), .lit (.string [124, 124]), .lit (.string [45]), .lit (.string [33])]

/-- 'pavanelaw08.PrintWrites': WHATEVER THE INPUT: true; the input reads as it did. -/
def printWritesSpec : ChangeSpec := { name := "printWrites", fn := fun _ => fun
  | [d] => { results := [.lit (.bool true)], args := [d] }
  | _ => none }
def printWritesRow : OpenClaim := { program := "ytpgeidpfhakgaaagreatdoor", sum := "cabe30ca9a61442ba4d14e579e4510ada6d67ea1644f57bb18d0d0f4d02a89d6", func := "pavane/pavanelaw08.PrintWrites", spec := "printWrites", inPlace := ["internal/bytealg.IndexByteString", "internal/abi.NoEscape", "internal/bytealg.MakeNoZero"], unfollowed := true, recurses := true, named := ["pavane/scan.keywords", "strconv.ErrSyntax", "strconv.ErrRange", "internal/strconv.uint64pow10", "math/bits.deBruijn32tab", "math/bits.deBruijn64tab", "pavane/expr.signs"], loops := true, apart := false, laid := [("math/bits.deBruijn32tab", laid_math_bits_deBruijn32tab), ("math/bits.deBruijn64tab", laid_math_bits_deBruijn64tab), ("internal/strconv.uint64pow10", laid_internal_strconv_uint64pow10), ("strconv.ErrRange", laid_strconv_ErrRange), ("strconv.ErrSyntax", laid_strconv_ErrSyntax), ("pavane/scan.keywords", laid_pavane_scan_keywords), ("pavane/expr.signs", laid_pavane_expr_signs)] }
def PrintWritesSaid : Prop := printWritesRow.holds Tryz.pinned (OpenSpec.ofChange printWritesSpec)

/-- ITS FALSE NEIGHBOUR: 'it returns false'. Refute it at one input. -/
def printWritesWrong : ChangeSpec := { name := "printWrites", fn := fun _ => fun
  | [d] => { results := [.lit (.bool false)], args := [d] }
  | _ => none }
def PrintWritesWrongFalsely : Prop := printWritesRow.holds Tryz.pinned (OpenSpec.ofChange printWritesWrong)

/-- 'pavanelaw08.PrintMoves': WHATEVER THE INPUT: true; the input reads as it did. -/
def printMovesSpec : ChangeSpec := { name := "printMoves", fn := fun _ => fun
  | [d] => { results := [.lit (.bool true)], args := [d] }
  | _ => none }
def printMovesRow : OpenClaim := { program := "ytpgeidpfhakgaaagreatdoor", sum := "cabe30ca9a61442ba4d14e579e4510ada6d67ea1644f57bb18d0d0f4d02a89d6", func := "pavane/pavanelaw08.PrintMoves", spec := "printMoves", inPlace := ["internal/bytealg.IndexByteString", "internal/abi.NoEscape", "internal/bytealg.MakeNoZero"], unfollowed := true, recurses := true, named := ["pavane/scan.keywords", "strconv.ErrSyntax", "strconv.ErrRange", "internal/strconv.uint64pow10", "math/bits.deBruijn32tab", "math/bits.deBruijn64tab", "pavane/expr.signs"], loops := true, apart := false, laid := [("math/bits.deBruijn32tab", laid_math_bits_deBruijn32tab), ("math/bits.deBruijn64tab", laid_math_bits_deBruijn64tab), ("internal/strconv.uint64pow10", laid_internal_strconv_uint64pow10), ("strconv.ErrRange", laid_strconv_ErrRange), ("strconv.ErrSyntax", laid_strconv_ErrSyntax), ("pavane/scan.keywords", laid_pavane_scan_keywords), ("pavane/expr.signs", laid_pavane_expr_signs)] }
def PrintMovesSaid : Prop := printMovesRow.holds Tryz.pinned (OpenSpec.ofChange printMovesSpec)

/-- ITS FALSE NEIGHBOUR: 'it returns false'. Refute it at one input. -/
def printMovesWrong : ChangeSpec := { name := "printMoves", fn := fun _ => fun
  | [d] => { results := [.lit (.bool false)], args := [d] }
  | _ => none }
def PrintMovesWrongFalsely : Prop := printMovesRow.holds Tryz.pinned (OpenSpec.ofChange printMovesWrong)

/-- 'pavanelaw09.ForestLays': WHATEVER THE INPUT: true; the input reads as it did. -/
def forestLaysSpec : ChangeSpec := { name := "forestLays", fn := fun _ => fun
  | [d] => { results := [.lit (.bool true)], args := [d] }
  | _ => none }
def forestLaysRow : OpenClaim := { program := "ytpgeidpfhakgaaagreatdoor", sum := "cabe30ca9a61442ba4d14e579e4510ada6d67ea1644f57bb18d0d0f4d02a89d6", func := "pavane/pavanelaw09.ForestLays", spec := "forestLays", inPlace := ["internal/bytealg.IndexByteString", "internal/abi.NoEscape", "internal/bytealg.MakeNoZero"], unfollowed := true, recurses := true, named := ["pavane/scan.keywords", "strconv.ErrSyntax", "strconv.ErrRange", "internal/strconv.uint64pow10", "math/bits.deBruijn32tab", "math/bits.deBruijn64tab", "pavane/expr.signs"], loops := true, apart := false, laid := [("math/bits.deBruijn32tab", laid_math_bits_deBruijn32tab), ("math/bits.deBruijn64tab", laid_math_bits_deBruijn64tab), ("internal/strconv.uint64pow10", laid_internal_strconv_uint64pow10), ("strconv.ErrRange", laid_strconv_ErrRange), ("strconv.ErrSyntax", laid_strconv_ErrSyntax), ("pavane/scan.keywords", laid_pavane_scan_keywords), ("pavane/expr.signs", laid_pavane_expr_signs)] }
def ForestLaysSaid : Prop := forestLaysRow.holds Tryz.pinned (OpenSpec.ofChange forestLaysSpec)

/-- ITS FALSE NEIGHBOUR: 'it returns false'. Refute it at one input. -/
def forestLaysWrong : ChangeSpec := { name := "forestLays", fn := fun _ => fun
  | [d] => { results := [.lit (.bool false)], args := [d] }
  | _ => none }
def ForestLaysWrongFalsely : Prop := forestLaysRow.holds Tryz.pinned (OpenSpec.ofChange forestLaysWrong)

/-- 'pavanelaw09.ForestOrders': WHATEVER THE INPUT: true; the input reads as it did. -/
def forestOrdersSpec : ChangeSpec := { name := "forestOrders", fn := fun _ => fun
  | [d1, d2, d3, d4] => { results := [.lit (.bool true)], args := [d1, d2, d3, d4] }
  | _ => none }
def forestOrdersRow : OpenClaim := { program := "ytpgeidpfhakgaaagreatdoor", sum := "cabe30ca9a61442ba4d14e579e4510ada6d67ea1644f57bb18d0d0f4d02a89d6", func := "pavane/pavanelaw09.ForestOrders", spec := "forestOrders", inPlace := ["internal/bytealg.IndexByteString", "internal/abi.NoEscape", "internal/bytealg.MakeNoZero"], unfollowed := true, recurses := true, named := ["pavane/scan.keywords", "strconv.ErrSyntax", "strconv.ErrRange", "internal/strconv.uint64pow10", "math/bits.deBruijn32tab", "math/bits.deBruijn64tab", "pavane/expr.signs"], loops := true, apart := false, laid := [("math/bits.deBruijn32tab", laid_math_bits_deBruijn32tab), ("math/bits.deBruijn64tab", laid_math_bits_deBruijn64tab), ("internal/strconv.uint64pow10", laid_internal_strconv_uint64pow10), ("strconv.ErrRange", laid_strconv_ErrRange), ("strconv.ErrSyntax", laid_strconv_ErrSyntax), ("pavane/scan.keywords", laid_pavane_scan_keywords), ("pavane/expr.signs", laid_pavane_expr_signs)] }
def ForestOrdersSaid : Prop := forestOrdersRow.holds Tryz.pinned (OpenSpec.ofChange forestOrdersSpec)

/-- ITS FALSE NEIGHBOUR: 'it returns false'. Refute it at one input. -/
def forestOrdersWrong : ChangeSpec := { name := "forestOrders", fn := fun _ => fun
  | [d1, d2, d3, d4] => { results := [.lit (.bool false)], args := [d1, d2, d3, d4] }
  | _ => none }
def ForestOrdersWrongFalsely : Prop := forestOrdersRow.holds Tryz.pinned (OpenSpec.ofChange forestOrdersWrong)

/-- 'pavanelaw09.ForestMeets': WHATEVER THE INPUT: true; the input reads as it did. -/
def forestMeetsSpec : ChangeSpec := { name := "forestMeets", fn := fun _ => fun
  | [d1, d2, d3, d4] => { results := [.lit (.bool true)], args := [d1, d2, d3, d4] }
  | _ => none }
def forestMeetsRow : OpenClaim := { program := "ytpgeidpfhakgaaagreatdoor", sum := "cabe30ca9a61442ba4d14e579e4510ada6d67ea1644f57bb18d0d0f4d02a89d6", func := "pavane/pavanelaw09.ForestMeets", spec := "forestMeets", inPlace := ["internal/bytealg.IndexByteString", "internal/abi.NoEscape", "internal/bytealg.MakeNoZero"], unfollowed := true, recurses := true, named := ["pavane/scan.keywords", "strconv.ErrSyntax", "strconv.ErrRange", "internal/strconv.uint64pow10", "math/bits.deBruijn32tab", "math/bits.deBruijn64tab", "pavane/expr.signs"], loops := true, apart := false, laid := [("math/bits.deBruijn32tab", laid_math_bits_deBruijn32tab), ("math/bits.deBruijn64tab", laid_math_bits_deBruijn64tab), ("internal/strconv.uint64pow10", laid_internal_strconv_uint64pow10), ("strconv.ErrRange", laid_strconv_ErrRange), ("strconv.ErrSyntax", laid_strconv_ErrSyntax), ("pavane/scan.keywords", laid_pavane_scan_keywords), ("pavane/expr.signs", laid_pavane_expr_signs)] }
def ForestMeetsSaid : Prop := forestMeetsRow.holds Tryz.pinned (OpenSpec.ofChange forestMeetsSpec)

/-- ITS FALSE NEIGHBOUR: 'it returns false'. Refute it at one input. -/
def forestMeetsWrong : ChangeSpec := { name := "forestMeets", fn := fun _ => fun
  | [d1, d2, d3, d4] => { results := [.lit (.bool false)], args := [d1, d2, d3, d4] }
  | _ => none }
def ForestMeetsWrongFalsely : Prop := forestMeetsRow.holds Tryz.pinned (OpenSpec.ofChange forestMeetsWrong)

/-- 'pavanelaw09.ForestKids': WHATEVER THE INPUT: true; the input reads as it did. -/
def forestKidsSpec : ChangeSpec := { name := "forestKids", fn := fun _ => fun
  | [d] => { results := [.lit (.bool true)], args := [d] }
  | _ => none }
def forestKidsRow : OpenClaim := { program := "ytpgeidpfhakgaaagreatdoor", sum := "cabe30ca9a61442ba4d14e579e4510ada6d67ea1644f57bb18d0d0f4d02a89d6", func := "pavane/pavanelaw09.ForestKids", spec := "forestKids", inPlace := ["internal/bytealg.IndexByteString", "internal/abi.NoEscape", "internal/bytealg.MakeNoZero"], unfollowed := true, recurses := true, named := ["pavane/scan.keywords", "strconv.ErrSyntax", "strconv.ErrRange", "internal/strconv.uint64pow10", "math/bits.deBruijn32tab", "math/bits.deBruijn64tab", "pavane/expr.signs"], loops := true, apart := false, laid := [("math/bits.deBruijn32tab", laid_math_bits_deBruijn32tab), ("math/bits.deBruijn64tab", laid_math_bits_deBruijn64tab), ("internal/strconv.uint64pow10", laid_internal_strconv_uint64pow10), ("strconv.ErrRange", laid_strconv_ErrRange), ("strconv.ErrSyntax", laid_strconv_ErrSyntax), ("pavane/scan.keywords", laid_pavane_scan_keywords), ("pavane/expr.signs", laid_pavane_expr_signs)] }
def ForestKidsSaid : Prop := forestKidsRow.holds Tryz.pinned (OpenSpec.ofChange forestKidsSpec)

/-- ITS FALSE NEIGHBOUR: 'it returns false'. Refute it at one input. -/
def forestKidsWrong : ChangeSpec := { name := "forestKids", fn := fun _ => fun
  | [d] => { results := [.lit (.bool false)], args := [d] }
  | _ => none }
def ForestKidsWrongFalsely : Prop := forestKidsRow.holds Tryz.pinned (OpenSpec.ofChange forestKidsWrong)

/-- 'pavanelaw09.ForestEnds': WHATEVER THE INPUT: true; the input reads as it did. -/
def forestEndsSpec : ChangeSpec := { name := "forestEnds", fn := fun _ => fun
  | [d] => { results := [.lit (.bool true)], args := [d] }
  | _ => none }
def forestEndsRow : OpenClaim := { program := "ytpgeidpfhakgaaagreatdoor", sum := "cabe30ca9a61442ba4d14e579e4510ada6d67ea1644f57bb18d0d0f4d02a89d6", func := "pavane/pavanelaw09.ForestEnds", spec := "forestEnds", inPlace := ["internal/bytealg.IndexByteString", "internal/abi.NoEscape", "internal/bytealg.MakeNoZero"], unfollowed := true, recurses := true, named := ["pavane/scan.keywords", "strconv.ErrSyntax", "strconv.ErrRange", "internal/strconv.uint64pow10", "math/bits.deBruijn32tab", "math/bits.deBruijn64tab", "pavane/expr.signs"], loops := true, apart := false, laid := [("math/bits.deBruijn32tab", laid_math_bits_deBruijn32tab), ("math/bits.deBruijn64tab", laid_math_bits_deBruijn64tab), ("internal/strconv.uint64pow10", laid_internal_strconv_uint64pow10), ("strconv.ErrRange", laid_strconv_ErrRange), ("strconv.ErrSyntax", laid_strconv_ErrSyntax), ("pavane/scan.keywords", laid_pavane_scan_keywords), ("pavane/expr.signs", laid_pavane_expr_signs)] }
def ForestEndsSaid : Prop := forestEndsRow.holds Tryz.pinned (OpenSpec.ofChange forestEndsSpec)

/-- ITS FALSE NEIGHBOUR: 'it returns false'. Refute it at one input. -/
def forestEndsWrong : ChangeSpec := { name := "forestEnds", fn := fun _ => fun
  | [d] => { results := [.lit (.bool false)], args := [d] }
  | _ => none }
def ForestEndsWrongFalsely : Prop := forestEndsRow.holds Tryz.pinned (OpenSpec.ofChange forestEndsWrong)

/- THE SECOND FORM. 'bulk': how many values and letters a reading holds, each counted each time it is reached (what is shared counts as often as it is met; a slice's spare places count too). A statement '..UptoSaid' is the law's where the arguments, and the package variables that the reading takes, are together of bulk at most 1048576: NARROWER than '..Said'. Prove '..Said' where nothing that the law and all that it calls make is longer than what came in: it says more and counts as full. Else prove '..UptoSaid'. A law counts once. -/
mutual
def uptoBulk {H : Type} : DataW H → Nat
  | .lit (.string bytes) => bytes.length + 1
  | .lit _ => 1
  | .nil => 1
  | .ptr d => uptoBulk d + 1
  | .slice elems spare => uptoBulkAll elems + uptoBulkAll spare + 1
  | .agg parts => uptoBulkAll parts + 1
  | .iface _ d => uptoBulk d + 1
  | .map entries => uptoBulkEntries entries + 1
  | .held _ => 1
def uptoBulkAll {H : Type} : List (DataW H) → Nat
  | [] => 0
  | d :: r => uptoBulk d + uptoBulkAll r
def uptoBulkEntries {H : Type} : List (Lit × DataW H) → Nat
  | [] => 0
  | x :: r => uptoBulkEntry x + uptoBulkEntries r
def uptoBulkEntry {H : Type} : Lit × DataW H → Nat
  | (.string bytes, d) => bytes.length + uptoBulk d + 1
  | (_, d) => uptoBulk d + 1
 end
def uptoSmall : (H : Type) → List (DataW H) → Bool := fun _ ds => decide (uptoBulkAll ds ≤ 1048576)
def OpenSpec.upto (s : _root_.Go.ChangeSpec) : _root_.Go.OpenSpec := { _root_.Go.OpenSpec.ofChange s with cond := some uptoSmall }

/-- 'pavanelaw08.PrintWrites', WHERE WHAT IT READS IS OF BULK AT MOST 1048576: true; the input reads as it did. -/
def printWritesUptoRow : OpenClaim := { program := "ytpgeidpfhakgaaagreatdoor", sum := "cabe30ca9a61442ba4d14e579e4510ada6d67ea1644f57bb18d0d0f4d02a89d6", func := "pavane/pavanelaw08.PrintWrites", spec := "printWrites", inPlace := ["internal/bytealg.IndexByteString", "internal/abi.NoEscape", "internal/bytealg.MakeNoZero"], unfollowed := true, recurses := true, named := ["pavane/scan.keywords", "strconv.ErrSyntax", "strconv.ErrRange", "internal/strconv.uint64pow10", "math/bits.deBruijn32tab", "math/bits.deBruijn64tab", "pavane/expr.signs"], loops := true, apart := false, laid := [("math/bits.deBruijn32tab", laid_math_bits_deBruijn32tab), ("math/bits.deBruijn64tab", laid_math_bits_deBruijn64tab), ("internal/strconv.uint64pow10", laid_internal_strconv_uint64pow10), ("strconv.ErrRange", laid_strconv_ErrRange), ("strconv.ErrSyntax", laid_strconv_ErrSyntax), ("pavane/scan.keywords", laid_pavane_scan_keywords), ("pavane/expr.signs", laid_pavane_expr_signs)], narrowed := true }
def PrintWritesUptoSaid : Prop := printWritesUptoRow.holds Tryz.pinned (OpenSpec.upto printWritesSpec)

/-- 'pavanelaw08.PrintMoves', WHERE WHAT IT READS IS OF BULK AT MOST 1048576: true; the input reads as it did. -/
def printMovesUptoRow : OpenClaim := { program := "ytpgeidpfhakgaaagreatdoor", sum := "cabe30ca9a61442ba4d14e579e4510ada6d67ea1644f57bb18d0d0f4d02a89d6", func := "pavane/pavanelaw08.PrintMoves", spec := "printMoves", inPlace := ["internal/bytealg.IndexByteString", "internal/abi.NoEscape", "internal/bytealg.MakeNoZero"], unfollowed := true, recurses := true, named := ["pavane/scan.keywords", "strconv.ErrSyntax", "strconv.ErrRange", "internal/strconv.uint64pow10", "math/bits.deBruijn32tab", "math/bits.deBruijn64tab", "pavane/expr.signs"], loops := true, apart := false, laid := [("math/bits.deBruijn32tab", laid_math_bits_deBruijn32tab), ("math/bits.deBruijn64tab", laid_math_bits_deBruijn64tab), ("internal/strconv.uint64pow10", laid_internal_strconv_uint64pow10), ("strconv.ErrRange", laid_strconv_ErrRange), ("strconv.ErrSyntax", laid_strconv_ErrSyntax), ("pavane/scan.keywords", laid_pavane_scan_keywords), ("pavane/expr.signs", laid_pavane_expr_signs)], narrowed := true }
def PrintMovesUptoSaid : Prop := printMovesUptoRow.holds Tryz.pinned (OpenSpec.upto printMovesSpec)

/-- 'pavanelaw09.ForestLays', WHERE WHAT IT READS IS OF BULK AT MOST 1048576: true; the input reads as it did. -/
def forestLaysUptoRow : OpenClaim := { program := "ytpgeidpfhakgaaagreatdoor", sum := "cabe30ca9a61442ba4d14e579e4510ada6d67ea1644f57bb18d0d0f4d02a89d6", func := "pavane/pavanelaw09.ForestLays", spec := "forestLays", inPlace := ["internal/bytealg.IndexByteString", "internal/abi.NoEscape", "internal/bytealg.MakeNoZero"], unfollowed := true, recurses := true, named := ["pavane/scan.keywords", "strconv.ErrSyntax", "strconv.ErrRange", "internal/strconv.uint64pow10", "math/bits.deBruijn32tab", "math/bits.deBruijn64tab", "pavane/expr.signs"], loops := true, apart := false, laid := [("math/bits.deBruijn32tab", laid_math_bits_deBruijn32tab), ("math/bits.deBruijn64tab", laid_math_bits_deBruijn64tab), ("internal/strconv.uint64pow10", laid_internal_strconv_uint64pow10), ("strconv.ErrRange", laid_strconv_ErrRange), ("strconv.ErrSyntax", laid_strconv_ErrSyntax), ("pavane/scan.keywords", laid_pavane_scan_keywords), ("pavane/expr.signs", laid_pavane_expr_signs)], narrowed := true }
def ForestLaysUptoSaid : Prop := forestLaysUptoRow.holds Tryz.pinned (OpenSpec.upto forestLaysSpec)

/-- 'pavanelaw09.ForestOrders', WHERE WHAT IT READS IS OF BULK AT MOST 1048576: true; the input reads as it did. -/
def forestOrdersUptoRow : OpenClaim := { program := "ytpgeidpfhakgaaagreatdoor", sum := "cabe30ca9a61442ba4d14e579e4510ada6d67ea1644f57bb18d0d0f4d02a89d6", func := "pavane/pavanelaw09.ForestOrders", spec := "forestOrders", inPlace := ["internal/bytealg.IndexByteString", "internal/abi.NoEscape", "internal/bytealg.MakeNoZero"], unfollowed := true, recurses := true, named := ["pavane/scan.keywords", "strconv.ErrSyntax", "strconv.ErrRange", "internal/strconv.uint64pow10", "math/bits.deBruijn32tab", "math/bits.deBruijn64tab", "pavane/expr.signs"], loops := true, apart := false, laid := [("math/bits.deBruijn32tab", laid_math_bits_deBruijn32tab), ("math/bits.deBruijn64tab", laid_math_bits_deBruijn64tab), ("internal/strconv.uint64pow10", laid_internal_strconv_uint64pow10), ("strconv.ErrRange", laid_strconv_ErrRange), ("strconv.ErrSyntax", laid_strconv_ErrSyntax), ("pavane/scan.keywords", laid_pavane_scan_keywords), ("pavane/expr.signs", laid_pavane_expr_signs)], narrowed := true }
def ForestOrdersUptoSaid : Prop := forestOrdersUptoRow.holds Tryz.pinned (OpenSpec.upto forestOrdersSpec)

/-- 'pavanelaw09.ForestMeets', WHERE WHAT IT READS IS OF BULK AT MOST 1048576: true; the input reads as it did. -/
def forestMeetsUptoRow : OpenClaim := { program := "ytpgeidpfhakgaaagreatdoor", sum := "cabe30ca9a61442ba4d14e579e4510ada6d67ea1644f57bb18d0d0f4d02a89d6", func := "pavane/pavanelaw09.ForestMeets", spec := "forestMeets", inPlace := ["internal/bytealg.IndexByteString", "internal/abi.NoEscape", "internal/bytealg.MakeNoZero"], unfollowed := true, recurses := true, named := ["pavane/scan.keywords", "strconv.ErrSyntax", "strconv.ErrRange", "internal/strconv.uint64pow10", "math/bits.deBruijn32tab", "math/bits.deBruijn64tab", "pavane/expr.signs"], loops := true, apart := false, laid := [("math/bits.deBruijn32tab", laid_math_bits_deBruijn32tab), ("math/bits.deBruijn64tab", laid_math_bits_deBruijn64tab), ("internal/strconv.uint64pow10", laid_internal_strconv_uint64pow10), ("strconv.ErrRange", laid_strconv_ErrRange), ("strconv.ErrSyntax", laid_strconv_ErrSyntax), ("pavane/scan.keywords", laid_pavane_scan_keywords), ("pavane/expr.signs", laid_pavane_expr_signs)], narrowed := true }
def ForestMeetsUptoSaid : Prop := forestMeetsUptoRow.holds Tryz.pinned (OpenSpec.upto forestMeetsSpec)

/-- 'pavanelaw09.ForestKids', WHERE WHAT IT READS IS OF BULK AT MOST 1048576: true; the input reads as it did. -/
def forestKidsUptoRow : OpenClaim := { program := "ytpgeidpfhakgaaagreatdoor", sum := "cabe30ca9a61442ba4d14e579e4510ada6d67ea1644f57bb18d0d0f4d02a89d6", func := "pavane/pavanelaw09.ForestKids", spec := "forestKids", inPlace := ["internal/bytealg.IndexByteString", "internal/abi.NoEscape", "internal/bytealg.MakeNoZero"], unfollowed := true, recurses := true, named := ["pavane/scan.keywords", "strconv.ErrSyntax", "strconv.ErrRange", "internal/strconv.uint64pow10", "math/bits.deBruijn32tab", "math/bits.deBruijn64tab", "pavane/expr.signs"], loops := true, apart := false, laid := [("math/bits.deBruijn32tab", laid_math_bits_deBruijn32tab), ("math/bits.deBruijn64tab", laid_math_bits_deBruijn64tab), ("internal/strconv.uint64pow10", laid_internal_strconv_uint64pow10), ("strconv.ErrRange", laid_strconv_ErrRange), ("strconv.ErrSyntax", laid_strconv_ErrSyntax), ("pavane/scan.keywords", laid_pavane_scan_keywords), ("pavane/expr.signs", laid_pavane_expr_signs)], narrowed := true }
def ForestKidsUptoSaid : Prop := forestKidsUptoRow.holds Tryz.pinned (OpenSpec.upto forestKidsSpec)

/-- 'pavanelaw09.ForestEnds', WHERE WHAT IT READS IS OF BULK AT MOST 1048576: true; the input reads as it did. -/
def forestEndsUptoRow : OpenClaim := { program := "ytpgeidpfhakgaaagreatdoor", sum := "cabe30ca9a61442ba4d14e579e4510ada6d67ea1644f57bb18d0d0f4d02a89d6", func := "pavane/pavanelaw09.ForestEnds", spec := "forestEnds", inPlace := ["internal/bytealg.IndexByteString", "internal/abi.NoEscape", "internal/bytealg.MakeNoZero"], unfollowed := true, recurses := true, named := ["pavane/scan.keywords", "strconv.ErrSyntax", "strconv.ErrRange", "internal/strconv.uint64pow10", "math/bits.deBruijn32tab", "math/bits.deBruijn64tab", "pavane/expr.signs"], loops := true, apart := false, laid := [("math/bits.deBruijn32tab", laid_math_bits_deBruijn32tab), ("math/bits.deBruijn64tab", laid_math_bits_deBruijn64tab), ("internal/strconv.uint64pow10", laid_internal_strconv_uint64pow10), ("strconv.ErrRange", laid_strconv_ErrRange), ("strconv.ErrSyntax", laid_strconv_ErrSyntax), ("pavane/scan.keywords", laid_pavane_scan_keywords), ("pavane/expr.signs", laid_pavane_expr_signs)], narrowed := true }
def ForestEndsUptoSaid : Prop := forestEndsUptoRow.holds Tryz.pinned (OpenSpec.upto forestEndsSpec)

end Rows
end Go.Proofs.YtpgeidpfhakgaaaGreatDoor
