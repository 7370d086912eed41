/-
  NARROWER THAN 'FOR EVERY INPUT', by the rows' own cells (each row's printed sentence says how): LintChecks: loops, laid · LintReads: laid · LintFinds: loops, laid · LintAgain: loops, laid · LintLess: loops, laid · LintWaits: laid.
  DERIVED. THE GIVEN ROWS OF THIS SEAT. 6 by the template 'for every input the law returns true; each argument reads behind the call as it read before'; 0 by the template 'total and deterministic' (their statements: YtocecpghoncmgaaGreatDoorTotals.lean).
  GIVEN WITH THE SEED: the statements are not yours to turn. If you find one false, say at which input.
  Laid BY PROGRAM, IN A SANDBOX (cutbox-rows.mjs): the forced cells as the released guide's own fill.sh prints them over the translation 8a74eba2a0056155… (all of the seat's roots in one cut). By AI agents, Wed Nov 11 2026. No macro, syntax, notation, axiom, sorry.
-/
import Derived.Test.YtocecpghoncmgaaGreatDoorChecked
import GoSem.Claim
import GoSem.ClaimJoined
import GoSem.ClaimMapViews
import Derived.JoinedTies
import Derived.KernelRfl
namespace Go.Proofs.YtocecpghoncmgaaGreatDoor
/- THE CELL 'sum', in the pinned program and in every row, IS THE sha256 OF THE DUMP (.gsa) THAT YtocecpghoncmgaaGreatDoorProg.lean LOADS. Nothing in Lean hashes anything: it is a label: what it is worth is what the hold of that sum in a sandbox is worth. -/
noncomputable def Tryz.pinned : Pinned := { name := "ytocecpghoncmgaagreatdoor", sum := "8a74eba2a00561552eda69b43f6b8746a21e9a9742847273acb2709511d7e777", checked := Tryz.checked }
namespace Rows
def none {H : Type} : Left H := { results := [], args := [] }

/- WHAT THE LISTED PACKAGE-LEVEL VARIABLES READ AS WHEN THE CALL BEGINS. Each datum BY PROGRAM (the guide's laid-datum.mjs) off the statement by which the dump's own 'gosem.cut.vars' lays the variable. In a bare row this is a premise. The card (YtocecpghoncmgaaGreatDoorCards.lean) ties it to the program's text. -/
def laid_math_bits_deBruijn32tab {H : Type} : DataW H := .agg [.lit (.int .u8 0), .lit (.int .u8 1), .lit (.int .u8 28), .lit (.int .u8 2), .lit (.int .u8 29), .lit (.int .u8 14), .lit (.int .u8 24), .lit (.int .u8 3), .lit (.int .u8 30), .lit (.int .u8 22), .lit (.int .u8 20), .lit (.int .u8 15), .lit (.int .u8 25), .lit (.int .u8 17), .lit (.int .u8 4), .lit (.int .u8 8), .lit (.int .u8 31), .lit (.int .u8 27), .lit (.int .u8 13), .lit (.int .u8 23), .lit (.int .u8 21), .lit (.int .u8 19), .lit (.int .u8 16), .lit (.int .u8 7), .lit (.int .u8 26), .lit (.int .u8 12), .lit (.int .u8 18), .lit (.int .u8 6), .lit (.int .u8 11), .lit (.int .u8 5), .lit (.int .u8 10), .lit (.int .u8 9)]
def laid_math_bits_deBruijn64tab {H : Type} : DataW H := .agg [.lit (.int .u8 0), .lit (.int .u8 1), .lit (.int .u8 56), .lit (.int .u8 2), .lit (.int .u8 57), .lit (.int .u8 49), .lit (.int .u8 28), .lit (.int .u8 3), .lit (.int .u8 61), .lit (.int .u8 58), .lit (.int .u8 42), .lit (.int .u8 50), .lit (.int .u8 38), .lit (.int .u8 29), .lit (.int .u8 17), .lit (.int .u8 4), .lit (.int .u8 62), .lit (.int .u8 47), .lit (.int .u8 59), .lit (.int .u8 36), .lit (.int .u8 45), .lit (.int .u8 43), .lit (.int .u8 51), .lit (.int .u8 22), .lit (.int .u8 53), .lit (.int .u8 39), .lit (.int .u8 33), .lit (.int .u8 30), .lit (.int .u8 24), .lit (.int .u8 18), .lit (.int .u8 12), .lit (.int .u8 5), .lit (.int .u8 63), .lit (.int .u8 55), .lit (.int .u8 48), .lit (.int .u8 27), .lit (.int .u8 60), .lit (.int .u8 41), .lit (.int .u8 37), .lit (.int .u8 16), .lit (.int .u8 46), .lit (.int .u8 35), .lit (.int .u8 44), .lit (.int .u8 21), .lit (.int .u8 52), .lit (.int .u8 32), .lit (.int .u8 23), .lit (.int .u8 11), .lit (.int .u8 54), .lit (.int .u8 26), .lit (.int .u8 40), .lit (.int .u8 15), .lit (.int .u8 34), .lit (.int .u8 20), .lit (.int .u8 31), .lit (.int .u8 10), .lit (.int .u8 25), .lit (.int .u8 14), .lit (.int .u8 19), .lit (.int .u8 9), .lit (.int .u8 13), .lit (.int .u8 8), .lit (.int .u8 7), .lit (.int .u8 6)]
def laid_internal_strconv_uint64pow10 {H : Type} : DataW H := .agg [.lit (.int .u64 1), .lit (.int .u64 10), .lit (.int .u64 100), .lit (.int .u64 1000), .lit (.int .u64 10000), .lit (.int .u64 100000), .lit (.int .u64 1000000), .lit (.int .u64 10000000), .lit (.int .u64 100000000), .lit (.int .u64 1000000000), .lit (.int .u64 10000000000), .lit (.int .u64 100000000000), .lit (.int .u64 1000000000000), .lit (.int .u64 10000000000000), .lit (.int .u64 100000000000000), .lit (.int .u64 1000000000000000), .lit (.int .u64 10000000000000000), .lit (.int .u64 100000000000000000), .lit (.int .u64 1000000000000000000), .lit (.int .u64 10000000000000000000)]
def laid_strconv_ErrRange {H : Type} : DataW H := .iface "*errors.errorString" (.ptr (.agg [.lit (.string [118, 97, 108, 117, 101, 32, 111, 117, 116, 32, 111, 102, 32, 114, 97, 110, 103, 101])]))
def laid_strconv_ErrSyntax {H : Type} : DataW H := .iface "*errors.errorString" (.ptr (.agg [.lit (.string [105, 110, 118, 97, 108, 105, 100, 32, 115, 121, 110, 116, 97, 120])]))
def laid_pavane_scan_keywords {H : Type} : DataW H := .agg [.lit (.string [97, 102, 116, 101, 114]), .lit (.string [97, 108, 119, 97, 121, 115]), .lit (.string [99, 104, 97, 114, 116]), .lit (.string [100, 101, 101, 112]), .lit (.string [101, 109, 105, 116]), .lit (.string [101, 110, 116, 101, 114]), .lit (.string [104, 105, 115, 116, 111, 114, 121]), .lit (.string [105, 110]), .lit (.string [105, 110, 105, 116, 105, 97, 108]), .lit (.string [108, 101, 97, 118, 101]), .lit (.string [111, 110]), .lit (.string [112, 97, 114, 97, 108, 108, 101, 108]), .lit (.string [114, 97, 105, 115, 101]), .lit (.string [115, 101, 116]), .lit (.string [115, 116, 97, 116, 101]), .lit (.string [118, 97, 114])]
def laid_pavane_expr_signs {H : Type} : DataW H := .agg [.lit (.string []), .lit (.string [43]), .lit (.string [45]), .lit (.string [42]), .lit (.string [47]), .lit (.string [37]), .lit (.string [60]), .lit (.string [60, 61]), .lit (.string [62]), .lit (.string [62, 61]), .lit (.string [61, 61]), .lit (.string [33, 61]), .lit (.string [38, 38]), .lit (.string [124, 124]), .lit (.string [45]), .lit (.string [33])]

/-- 'pavanelaw10.LintChecks': WHATEVER THE INPUT: true; the input reads as it did. -/
def lintChecksSpec : ChangeSpec := { name := "lintChecks", fn := fun _ => fun
  | [d] => { results := [.lit (.bool true)], args := [d] }
  | _ => none }
def lintChecksRow : OpenClaim := { program := "ytocecpghoncmgaagreatdoor", sum := "8a74eba2a00561552eda69b43f6b8746a21e9a9742847273acb2709511d7e777", func := "pavane/pavanelaw10.LintChecks", spec := "lintChecks", inPlace := ["internal/bytealg.IndexByteString", "internal/abi.NoEscape", "internal/bytealg.MakeNoZero"], unfollowed := true, recurses := true, named := ["pavane/scan.keywords", "strconv.ErrSyntax", "strconv.ErrRange", "internal/strconv.uint64pow10", "math/bits.deBruijn32tab", "math/bits.deBruijn64tab", "pavane/expr.signs"], loops := true, apart := false, laid := [("math/bits.deBruijn32tab", laid_math_bits_deBruijn32tab), ("math/bits.deBruijn64tab", laid_math_bits_deBruijn64tab), ("internal/strconv.uint64pow10", laid_internal_strconv_uint64pow10), ("strconv.ErrRange", laid_strconv_ErrRange), ("strconv.ErrSyntax", laid_strconv_ErrSyntax), ("pavane/scan.keywords", laid_pavane_scan_keywords), ("pavane/expr.signs", laid_pavane_expr_signs)] }
def LintChecksSaid : Prop := lintChecksRow.holds Tryz.pinned (OpenSpec.ofChange lintChecksSpec)

/-- ITS FALSE NEIGHBOUR: 'it returns false'. Refute it at one input. -/
def lintChecksWrong : ChangeSpec := { name := "lintChecks", fn := fun _ => fun
  | [d] => { results := [.lit (.bool false)], args := [d] }
  | _ => none }
def LintChecksWrongFalsely : Prop := lintChecksRow.holds Tryz.pinned (OpenSpec.ofChange lintChecksWrong)

/-- 'pavanelaw10.LintReads': WHATEVER THE INPUT: true; the input reads as it did. -/
def lintReadsSpec : ChangeSpec := { name := "lintReads", fn := fun _ => fun
  | [d] => { results := [.lit (.bool true)], args := [d] }
  | _ => none }
def lintReadsRow : OpenClaim := { program := "ytocecpghoncmgaagreatdoor", sum := "8a74eba2a00561552eda69b43f6b8746a21e9a9742847273acb2709511d7e777", func := "pavane/pavanelaw10.LintReads", spec := "lintReads", inPlace := ["internal/bytealg.IndexByteString", "internal/abi.NoEscape", "internal/bytealg.MakeNoZero"], unfollowed := true, recurses := true, named := ["pavane/scan.keywords", "strconv.ErrSyntax", "strconv.ErrRange", "internal/strconv.uint64pow10", "math/bits.deBruijn32tab", "math/bits.deBruijn64tab", "pavane/expr.signs"], apart := false, laid := [("math/bits.deBruijn32tab", laid_math_bits_deBruijn32tab), ("math/bits.deBruijn64tab", laid_math_bits_deBruijn64tab), ("internal/strconv.uint64pow10", laid_internal_strconv_uint64pow10), ("strconv.ErrRange", laid_strconv_ErrRange), ("strconv.ErrSyntax", laid_strconv_ErrSyntax), ("pavane/scan.keywords", laid_pavane_scan_keywords), ("pavane/expr.signs", laid_pavane_expr_signs)] }
def LintReadsSaid : Prop := lintReadsRow.holds Tryz.pinned (OpenSpec.ofChange lintReadsSpec)

/-- ITS FALSE NEIGHBOUR: 'it returns false'. Refute it at one input. -/
def lintReadsWrong : ChangeSpec := { name := "lintReads", fn := fun _ => fun
  | [d] => { results := [.lit (.bool false)], args := [d] }
  | _ => none }
def LintReadsWrongFalsely : Prop := lintReadsRow.holds Tryz.pinned (OpenSpec.ofChange lintReadsWrong)

/-- 'pavanelaw10.LintFinds': WHATEVER THE INPUT: true; the input reads as it did. -/
def lintFindsSpec : ChangeSpec := { name := "lintFinds", fn := fun _ => fun
  | [d] => { results := [.lit (.bool true)], args := [d] }
  | _ => none }
def lintFindsRow : OpenClaim := { program := "ytocecpghoncmgaagreatdoor", sum := "8a74eba2a00561552eda69b43f6b8746a21e9a9742847273acb2709511d7e777", func := "pavane/pavanelaw10.LintFinds", spec := "lintFinds", inPlace := ["internal/bytealg.IndexByteString", "internal/abi.NoEscape", "internal/bytealg.MakeNoZero"], unfollowed := true, recurses := true, named := ["pavane/scan.keywords", "strconv.ErrSyntax", "strconv.ErrRange", "internal/strconv.uint64pow10", "math/bits.deBruijn32tab", "math/bits.deBruijn64tab", "pavane/expr.signs"], loops := true, apart := false, laid := [("math/bits.deBruijn32tab", laid_math_bits_deBruijn32tab), ("math/bits.deBruijn64tab", laid_math_bits_deBruijn64tab), ("internal/strconv.uint64pow10", laid_internal_strconv_uint64pow10), ("strconv.ErrRange", laid_strconv_ErrRange), ("strconv.ErrSyntax", laid_strconv_ErrSyntax), ("pavane/scan.keywords", laid_pavane_scan_keywords), ("pavane/expr.signs", laid_pavane_expr_signs)] }
def LintFindsSaid : Prop := lintFindsRow.holds Tryz.pinned (OpenSpec.ofChange lintFindsSpec)

/-- ITS FALSE NEIGHBOUR: 'it returns false'. Refute it at one input. -/
def lintFindsWrong : ChangeSpec := { name := "lintFinds", fn := fun _ => fun
  | [d] => { results := [.lit (.bool false)], args := [d] }
  | _ => none }
def LintFindsWrongFalsely : Prop := lintFindsRow.holds Tryz.pinned (OpenSpec.ofChange lintFindsWrong)

/-- 'pavanelaw10.LintAgain': WHATEVER THE INPUT: true; the input reads as it did. -/
def lintAgainSpec : ChangeSpec := { name := "lintAgain", fn := fun _ => fun
  | [d] => { results := [.lit (.bool true)], args := [d] }
  | _ => none }
def lintAgainRow : OpenClaim := { program := "ytocecpghoncmgaagreatdoor", sum := "8a74eba2a00561552eda69b43f6b8746a21e9a9742847273acb2709511d7e777", func := "pavane/pavanelaw10.LintAgain", spec := "lintAgain", inPlace := ["internal/bytealg.IndexByteString", "internal/abi.NoEscape", "internal/bytealg.MakeNoZero"], unfollowed := true, recurses := true, named := ["pavane/scan.keywords", "strconv.ErrSyntax", "strconv.ErrRange", "internal/strconv.uint64pow10", "math/bits.deBruijn32tab", "math/bits.deBruijn64tab", "pavane/expr.signs"], loops := true, apart := false, laid := [("math/bits.deBruijn32tab", laid_math_bits_deBruijn32tab), ("math/bits.deBruijn64tab", laid_math_bits_deBruijn64tab), ("internal/strconv.uint64pow10", laid_internal_strconv_uint64pow10), ("strconv.ErrRange", laid_strconv_ErrRange), ("strconv.ErrSyntax", laid_strconv_ErrSyntax), ("pavane/scan.keywords", laid_pavane_scan_keywords), ("pavane/expr.signs", laid_pavane_expr_signs)] }
def LintAgainSaid : Prop := lintAgainRow.holds Tryz.pinned (OpenSpec.ofChange lintAgainSpec)

/-- ITS FALSE NEIGHBOUR: 'it returns false'. Refute it at one input. -/
def lintAgainWrong : ChangeSpec := { name := "lintAgain", fn := fun _ => fun
  | [d] => { results := [.lit (.bool false)], args := [d] }
  | _ => none }
def LintAgainWrongFalsely : Prop := lintAgainRow.holds Tryz.pinned (OpenSpec.ofChange lintAgainWrong)

/-- 'pavanelaw10.LintLess': WHATEVER THE INPUT: true; the input reads as it did. -/
def lintLessSpec : ChangeSpec := { name := "lintLess", fn := fun _ => fun
  | [d1, d2] => { results := [.lit (.bool true)], args := [d1, d2] }
  | _ => none }
def lintLessRow : OpenClaim := { program := "ytocecpghoncmgaagreatdoor", sum := "8a74eba2a00561552eda69b43f6b8746a21e9a9742847273acb2709511d7e777", func := "pavane/pavanelaw10.LintLess", spec := "lintLess", inPlace := ["internal/bytealg.IndexByteString", "internal/abi.NoEscape", "internal/bytealg.MakeNoZero"], unfollowed := true, recurses := true, named := ["pavane/scan.keywords", "strconv.ErrSyntax", "strconv.ErrRange", "internal/strconv.uint64pow10", "math/bits.deBruijn32tab", "math/bits.deBruijn64tab", "pavane/expr.signs"], loops := true, apart := false, laid := [("math/bits.deBruijn32tab", laid_math_bits_deBruijn32tab), ("math/bits.deBruijn64tab", laid_math_bits_deBruijn64tab), ("internal/strconv.uint64pow10", laid_internal_strconv_uint64pow10), ("strconv.ErrRange", laid_strconv_ErrRange), ("strconv.ErrSyntax", laid_strconv_ErrSyntax), ("pavane/scan.keywords", laid_pavane_scan_keywords), ("pavane/expr.signs", laid_pavane_expr_signs)] }
def LintLessSaid : Prop := lintLessRow.holds Tryz.pinned (OpenSpec.ofChange lintLessSpec)

/-- ITS FALSE NEIGHBOUR: 'it returns false'. Refute it at one input. -/
def lintLessWrong : ChangeSpec := { name := "lintLess", fn := fun _ => fun
  | [d1, d2] => { results := [.lit (.bool false)], args := [d1, d2] }
  | _ => none }
def LintLessWrongFalsely : Prop := lintLessRow.holds Tryz.pinned (OpenSpec.ofChange lintLessWrong)

/-- 'pavanelaw10.LintWaits': WHATEVER THE INPUT: true; the input reads as it did. -/
def lintWaitsSpec : ChangeSpec := { name := "lintWaits", fn := fun _ => fun
  | [d] => { results := [.lit (.bool true)], args := [d] }
  | _ => none }
def lintWaitsRow : OpenClaim := { program := "ytocecpghoncmgaagreatdoor", sum := "8a74eba2a00561552eda69b43f6b8746a21e9a9742847273acb2709511d7e777", func := "pavane/pavanelaw10.LintWaits", spec := "lintWaits", inPlace := ["internal/bytealg.IndexByteString", "internal/abi.NoEscape", "internal/bytealg.MakeNoZero"], unfollowed := true, recurses := true, named := ["pavane/scan.keywords", "strconv.ErrSyntax", "strconv.ErrRange", "internal/strconv.uint64pow10", "math/bits.deBruijn32tab", "math/bits.deBruijn64tab", "pavane/expr.signs"], apart := false, laid := [("math/bits.deBruijn32tab", laid_math_bits_deBruijn32tab), ("math/bits.deBruijn64tab", laid_math_bits_deBruijn64tab), ("internal/strconv.uint64pow10", laid_internal_strconv_uint64pow10), ("strconv.ErrRange", laid_strconv_ErrRange), ("strconv.ErrSyntax", laid_strconv_ErrSyntax), ("pavane/scan.keywords", laid_pavane_scan_keywords), ("pavane/expr.signs", laid_pavane_expr_signs)] }
def LintWaitsSaid : Prop := lintWaitsRow.holds Tryz.pinned (OpenSpec.ofChange lintWaitsSpec)

/-- ITS FALSE NEIGHBOUR: 'it returns false'. Refute it at one input. -/
def lintWaitsWrong : ChangeSpec := { name := "lintWaits", fn := fun _ => fun
  | [d] => { results := [.lit (.bool false)], args := [d] }
  | _ => none }
def LintWaitsWrongFalsely : Prop := lintWaitsRow.holds Tryz.pinned (OpenSpec.ofChange lintWaitsWrong)

/- THE SECOND FORM. 'bulk': how many values and letters a reading holds, each counted each time it is reached (what is shared counts as often as it is met; a slice's spare places count too). A statement '..UptoSaid' is the law's where the arguments, and the package variables that the reading takes, are together of bulk at most 1048576: NARROWER than '..Said'. Prove '..Said' where nothing that the law and all that it calls make is longer than what came in: it says more and counts as full. Else prove '..UptoSaid'. A law counts once. -/
mutual
def uptoBulk {H : Type} : DataW H → Nat
  | .lit (.string bytes) => bytes.length + 1
  | .lit _ => 1
  | .nil => 1
  | .ptr d => uptoBulk d + 1
  | .slice elems spare => uptoBulkAll elems + uptoBulkAll spare + 1
  | .agg parts => uptoBulkAll parts + 1
  | .iface _ d => uptoBulk d + 1
  | .map entries => uptoBulkEntries entries + 1
  | .held _ => 1
def uptoBulkAll {H : Type} : List (DataW H) → Nat
  | [] => 0
  | d :: r => uptoBulk d + uptoBulkAll r
def uptoBulkEntries {H : Type} : List (Lit × DataW H) → Nat
  | [] => 0
  | x :: r => uptoBulkEntry x + uptoBulkEntries r
def uptoBulkEntry {H : Type} : Lit × DataW H → Nat
  | (.string bytes, d) => bytes.length + uptoBulk d + 1
  | (_, d) => uptoBulk d + 1
 end
def uptoSmall : (H : Type) → List (DataW H) → Bool := fun _ ds => decide (uptoBulkAll ds ≤ 1048576)
def OpenSpec.upto (s : _root_.Go.ChangeSpec) : _root_.Go.OpenSpec := { _root_.Go.OpenSpec.ofChange s with cond := some uptoSmall }

/-- 'pavanelaw10.LintChecks', WHERE WHAT IT READS IS OF BULK AT MOST 1048576: true; the input reads as it did. -/
def lintChecksUptoRow : OpenClaim := { program := "ytocecpghoncmgaagreatdoor", sum := "8a74eba2a00561552eda69b43f6b8746a21e9a9742847273acb2709511d7e777", func := "pavane/pavanelaw10.LintChecks", spec := "lintChecks", inPlace := ["internal/bytealg.IndexByteString", "internal/abi.NoEscape", "internal/bytealg.MakeNoZero"], unfollowed := true, recurses := true, named := ["pavane/scan.keywords", "strconv.ErrSyntax", "strconv.ErrRange", "internal/strconv.uint64pow10", "math/bits.deBruijn32tab", "math/bits.deBruijn64tab", "pavane/expr.signs"], loops := true, apart := false, laid := [("math/bits.deBruijn32tab", laid_math_bits_deBruijn32tab), ("math/bits.deBruijn64tab", laid_math_bits_deBruijn64tab), ("internal/strconv.uint64pow10", laid_internal_strconv_uint64pow10), ("strconv.ErrRange", laid_strconv_ErrRange), ("strconv.ErrSyntax", laid_strconv_ErrSyntax), ("pavane/scan.keywords", laid_pavane_scan_keywords), ("pavane/expr.signs", laid_pavane_expr_signs)], narrowed := true }
def LintChecksUptoSaid : Prop := lintChecksUptoRow.holds Tryz.pinned (OpenSpec.upto lintChecksSpec)

/-- 'pavanelaw10.LintReads', WHERE WHAT IT READS IS OF BULK AT MOST 1048576: true; the input reads as it did. -/
def lintReadsUptoRow : OpenClaim := { program := "ytocecpghoncmgaagreatdoor", sum := "8a74eba2a00561552eda69b43f6b8746a21e9a9742847273acb2709511d7e777", func := "pavane/pavanelaw10.LintReads", spec := "lintReads", inPlace := ["internal/bytealg.IndexByteString", "internal/abi.NoEscape", "internal/bytealg.MakeNoZero"], unfollowed := true, recurses := true, named := ["pavane/scan.keywords", "strconv.ErrSyntax", "strconv.ErrRange", "internal/strconv.uint64pow10", "math/bits.deBruijn32tab", "math/bits.deBruijn64tab", "pavane/expr.signs"], apart := false, laid := [("math/bits.deBruijn32tab", laid_math_bits_deBruijn32tab), ("math/bits.deBruijn64tab", laid_math_bits_deBruijn64tab), ("internal/strconv.uint64pow10", laid_internal_strconv_uint64pow10), ("strconv.ErrRange", laid_strconv_ErrRange), ("strconv.ErrSyntax", laid_strconv_ErrSyntax), ("pavane/scan.keywords", laid_pavane_scan_keywords), ("pavane/expr.signs", laid_pavane_expr_signs)], narrowed := true }
def LintReadsUptoSaid : Prop := lintReadsUptoRow.holds Tryz.pinned (OpenSpec.upto lintReadsSpec)

/-- 'pavanelaw10.LintFinds', WHERE WHAT IT READS IS OF BULK AT MOST 1048576: true; the input reads as it did. -/
def lintFindsUptoRow : OpenClaim := { program := "ytocecpghoncmgaagreatdoor", sum := "8a74eba2a00561552eda69b43f6b8746a21e9a9742847273acb2709511d7e777", func := "pavane/pavanelaw10.LintFinds", spec := "lintFinds", inPlace := ["internal/bytealg.IndexByteString", "internal/abi.NoEscape", "internal/bytealg.MakeNoZero"], unfollowed := true, recurses := true, named := ["pavane/scan.keywords", "strconv.ErrSyntax", "strconv.ErrRange", "internal/strconv.uint64pow10", "math/bits.deBruijn32tab", "math/bits.deBruijn64tab", "pavane/expr.signs"], loops := true, apart := false, laid := [("math/bits.deBruijn32tab", laid_math_bits_deBruijn32tab), ("math/bits.deBruijn64tab", laid_math_bits_deBruijn64tab), ("internal/strconv.uint64pow10", laid_internal_strconv_uint64pow10), ("strconv.ErrRange", laid_strconv_ErrRange), ("strconv.ErrSyntax", laid_strconv_ErrSyntax), ("pavane/scan.keywords", laid_pavane_scan_keywords), ("pavane/expr.signs", laid_pavane_expr_signs)], narrowed := true }
def LintFindsUptoSaid : Prop := lintFindsUptoRow.holds Tryz.pinned (OpenSpec.upto lintFindsSpec)

/-- 'pavanelaw10.LintAgain', WHERE WHAT IT READS IS OF BULK AT MOST 1048576: true; the input reads as it did. -/
def lintAgainUptoRow : OpenClaim := { program := "ytocecpghoncmgaagreatdoor", sum := "8a74eba2a00561552eda69b43f6b8746a21e9a9742847273acb2709511d7e777", func := "pavane/pavanelaw10.LintAgain", spec := "lintAgain", inPlace := ["internal/bytealg.IndexByteString", "internal/abi.NoEscape", "internal/bytealg.MakeNoZero"], unfollowed := true, recurses := true, named := ["pavane/scan.keywords", "strconv.ErrSyntax", "strconv.ErrRange", "internal/strconv.uint64pow10", "math/bits.deBruijn32tab", "math/bits.deBruijn64tab", "pavane/expr.signs"], loops := true, apart := false, laid := [("math/bits.deBruijn32tab", laid_math_bits_deBruijn32tab), ("math/bits.deBruijn64tab", laid_math_bits_deBruijn64tab), ("internal/strconv.uint64pow10", laid_internal_strconv_uint64pow10), ("strconv.ErrRange", laid_strconv_ErrRange), ("strconv.ErrSyntax", laid_strconv_ErrSyntax), ("pavane/scan.keywords", laid_pavane_scan_keywords), ("pavane/expr.signs", laid_pavane_expr_signs)], narrowed := true }
def LintAgainUptoSaid : Prop := lintAgainUptoRow.holds Tryz.pinned (OpenSpec.upto lintAgainSpec)

/-- 'pavanelaw10.LintLess', WHERE WHAT IT READS IS OF BULK AT MOST 1048576: true; the input reads as it did. -/
def lintLessUptoRow : OpenClaim := { program := "ytocecpghoncmgaagreatdoor", sum := "8a74eba2a00561552eda69b43f6b8746a21e9a9742847273acb2709511d7e777", func := "pavane/pavanelaw10.LintLess", spec := "lintLess", inPlace := ["internal/bytealg.IndexByteString", "internal/abi.NoEscape", "internal/bytealg.MakeNoZero"], unfollowed := true, recurses := true, named := ["pavane/scan.keywords", "strconv.ErrSyntax", "strconv.ErrRange", "internal/strconv.uint64pow10", "math/bits.deBruijn32tab", "math/bits.deBruijn64tab", "pavane/expr.signs"], loops := true, apart := false, laid := [("math/bits.deBruijn32tab", laid_math_bits_deBruijn32tab), ("math/bits.deBruijn64tab", laid_math_bits_deBruijn64tab), ("internal/strconv.uint64pow10", laid_internal_strconv_uint64pow10), ("strconv.ErrRange", laid_strconv_ErrRange), ("strconv.ErrSyntax", laid_strconv_ErrSyntax), ("pavane/scan.keywords", laid_pavane_scan_keywords), ("pavane/expr.signs", laid_pavane_expr_signs)], narrowed := true }
def LintLessUptoSaid : Prop := lintLessUptoRow.holds Tryz.pinned (OpenSpec.upto lintLessSpec)

/-- 'pavanelaw10.LintWaits', WHERE WHAT IT READS IS OF BULK AT MOST 1048576: true; the input reads as it did. -/
def lintWaitsUptoRow : OpenClaim := { program := "ytocecpghoncmgaagreatdoor", sum := "8a74eba2a00561552eda69b43f6b8746a21e9a9742847273acb2709511d7e777", func := "pavane/pavanelaw10.LintWaits", spec := "lintWaits", inPlace := ["internal/bytealg.IndexByteString", "internal/abi.NoEscape", "internal/bytealg.MakeNoZero"], unfollowed := true, recurses := true, named := ["pavane/scan.keywords", "strconv.ErrSyntax", "strconv.ErrRange", "internal/strconv.uint64pow10", "math/bits.deBruijn32tab", "math/bits.deBruijn64tab", "pavane/expr.signs"], apart := false, laid := [("math/bits.deBruijn32tab", laid_math_bits_deBruijn32tab), ("math/bits.deBruijn64tab", laid_math_bits_deBruijn64tab), ("internal/strconv.uint64pow10", laid_internal_strconv_uint64pow10), ("strconv.ErrRange", laid_strconv_ErrRange), ("strconv.ErrSyntax", laid_strconv_ErrSyntax), ("pavane/scan.keywords", laid_pavane_scan_keywords), ("pavane/expr.signs", laid_pavane_expr_signs)], narrowed := true }
def LintWaitsUptoSaid : Prop := lintWaitsUptoRow.holds Tryz.pinned (OpenSpec.upto lintWaitsSpec)

end Rows
end Go.Proofs.YtocecpghoncmgaaGreatDoor
