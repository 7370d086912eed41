/-
  DERIVED. GIVEN WITH THE SEED: THE CARDS: each row of YtocecpghoncmgaaGreatDoorRows.lean that lists a variable, with what it lists TIED to the program's text (the seventh form; the later family's looks); each row that meets fmt, with fmt's text TOLD by the authors' own Lean function (tested against real Go, not proved from fmt's source: count such statements apart). THE CARD IS WHAT COUNTS. Prove the row's statement (the work); the ties are given (YtocecpghoncmgaaGreatDoorTie.lean); close each card by the builder's one call (the guide's Derived/Test/ToyasCard.lean, 'card_holds'). Laid BY PROGRAM, IN A SANDBOX (cutbox-door.mjs). By AI agents, Wed Nov 11 2026. No macro, syntax, notation, axiom, sorry.
-/
import Derived.Test.YtocecpghoncmgaaGreatDoorRows
import GoSem.ClaimSeven
namespace Go.Proofs.YtocecpghoncmgaaGreatDoor
namespace Rows

/-- THE TIED CARD OF 'pavanelaw10.LintChecks'. -/
def lintChecksCard : Claim7 := { stood := { row := lintChecksRow, standIns := [], harness := (true, "d9cddfbddd5589ccf3f53d34944c0bfc154ca15bd2c1a175a8928fcfc68e45d4"), looks := true }, kinds := [], alts := [], laidByText := true, laidKinds := [.data, .data, .data, .sentinel, .sentinel, .data, .data], laidTests := true, laidLooks := .later }
def LintChecksCardSaid : Prop := Claim7.holds Tryz.pinned (.plain (OpenSpec.ofChange lintChecksSpec)) lintChecksCard

/-- THE TIED CARD OF 'pavanelaw10.LintReads'. -/
def lintReadsCard : Claim7 := { stood := { row := lintReadsRow, standIns := [], harness := (true, "d9cddfbddd5589ccf3f53d34944c0bfc154ca15bd2c1a175a8928fcfc68e45d4"), looks := true }, kinds := [], alts := [], laidByText := true, laidKinds := [.data, .data, .data, .sentinel, .sentinel, .data, .data], laidTests := true, laidLooks := .later }
def LintReadsCardSaid : Prop := Claim7.holds Tryz.pinned (.plain (OpenSpec.ofChange lintReadsSpec)) lintReadsCard

/-- THE TIED CARD OF 'pavanelaw10.LintFinds'. -/
def lintFindsCard : Claim7 := { stood := { row := lintFindsRow, standIns := [], harness := (true, "d9cddfbddd5589ccf3f53d34944c0bfc154ca15bd2c1a175a8928fcfc68e45d4"), looks := true }, kinds := [], alts := [], laidByText := true, laidKinds := [.data, .data, .data, .sentinel, .sentinel, .data, .data], laidTests := true, laidLooks := .later }
def LintFindsCardSaid : Prop := Claim7.holds Tryz.pinned (.plain (OpenSpec.ofChange lintFindsSpec)) lintFindsCard

/-- THE TIED CARD OF 'pavanelaw10.LintAgain'. -/
def lintAgainCard : Claim7 := { stood := { row := lintAgainRow, standIns := [], harness := (true, "d9cddfbddd5589ccf3f53d34944c0bfc154ca15bd2c1a175a8928fcfc68e45d4"), looks := true }, kinds := [], alts := [], laidByText := true, laidKinds := [.data, .data, .data, .sentinel, .sentinel, .data, .data], laidTests := true, laidLooks := .later }
def LintAgainCardSaid : Prop := Claim7.holds Tryz.pinned (.plain (OpenSpec.ofChange lintAgainSpec)) lintAgainCard

/-- THE TIED CARD OF 'pavanelaw10.LintLess'. -/
def lintLessCard : Claim7 := { stood := { row := lintLessRow, standIns := [], harness := (true, "d9cddfbddd5589ccf3f53d34944c0bfc154ca15bd2c1a175a8928fcfc68e45d4"), looks := true }, kinds := [], alts := [], laidByText := true, laidKinds := [.data, .data, .data, .sentinel, .sentinel, .data, .data], laidTests := true, laidLooks := .later }
def LintLessCardSaid : Prop := Claim7.holds Tryz.pinned (.plain (OpenSpec.ofChange lintLessSpec)) lintLessCard

/-- THE TIED CARD OF 'pavanelaw10.LintWaits'. -/
def lintWaitsCard : Claim7 := { stood := { row := lintWaitsRow, standIns := [], harness := (true, "d9cddfbddd5589ccf3f53d34944c0bfc154ca15bd2c1a175a8928fcfc68e45d4"), looks := true }, kinds := [], alts := [], laidByText := true, laidKinds := [.data, .data, .data, .sentinel, .sentinel, .data, .data], laidTests := true, laidLooks := .later }
def LintWaitsCardSaid : Prop := Claim7.holds Tryz.pinned (.plain (OpenSpec.ofChange lintWaitsSpec)) lintWaitsCard

/-- THE SECOND FORM's CARD OF 'pavanelaw10.LintChecks'. -/
def lintChecksUptoCard : Claim7 := { stood := { row := lintChecksUptoRow, standIns := [], harness := (true, "d9cddfbddd5589ccf3f53d34944c0bfc154ca15bd2c1a175a8928fcfc68e45d4"), looks := true }, kinds := [], alts := [], laidByText := true, laidKinds := [.data, .data, .data, .sentinel, .sentinel, .data, .data], laidTests := true, laidLooks := .later }
def LintChecksUptoCardSaid : Prop := Claim7.holds Tryz.pinned (.plain (OpenSpec.upto lintChecksSpec)) lintChecksUptoCard

/-- THE SECOND FORM's CARD OF 'pavanelaw10.LintReads'. -/
def lintReadsUptoCard : Claim7 := { stood := { row := lintReadsUptoRow, standIns := [], harness := (true, "d9cddfbddd5589ccf3f53d34944c0bfc154ca15bd2c1a175a8928fcfc68e45d4"), looks := true }, kinds := [], alts := [], laidByText := true, laidKinds := [.data, .data, .data, .sentinel, .sentinel, .data, .data], laidTests := true, laidLooks := .later }
def LintReadsUptoCardSaid : Prop := Claim7.holds Tryz.pinned (.plain (OpenSpec.upto lintReadsSpec)) lintReadsUptoCard

/-- THE SECOND FORM's CARD OF 'pavanelaw10.LintFinds'. -/
def lintFindsUptoCard : Claim7 := { stood := { row := lintFindsUptoRow, standIns := [], harness := (true, "d9cddfbddd5589ccf3f53d34944c0bfc154ca15bd2c1a175a8928fcfc68e45d4"), looks := true }, kinds := [], alts := [], laidByText := true, laidKinds := [.data, .data, .data, .sentinel, .sentinel, .data, .data], laidTests := true, laidLooks := .later }
def LintFindsUptoCardSaid : Prop := Claim7.holds Tryz.pinned (.plain (OpenSpec.upto lintFindsSpec)) lintFindsUptoCard

/-- THE SECOND FORM's CARD OF 'pavanelaw10.LintAgain'. -/
def lintAgainUptoCard : Claim7 := { stood := { row := lintAgainUptoRow, standIns := [], harness := (true, "d9cddfbddd5589ccf3f53d34944c0bfc154ca15bd2c1a175a8928fcfc68e45d4"), looks := true }, kinds := [], alts := [], laidByText := true, laidKinds := [.data, .data, .data, .sentinel, .sentinel, .data, .data], laidTests := true, laidLooks := .later }
def LintAgainUptoCardSaid : Prop := Claim7.holds Tryz.pinned (.plain (OpenSpec.upto lintAgainSpec)) lintAgainUptoCard

/-- THE SECOND FORM's CARD OF 'pavanelaw10.LintLess'. -/
def lintLessUptoCard : Claim7 := { stood := { row := lintLessUptoRow, standIns := [], harness := (true, "d9cddfbddd5589ccf3f53d34944c0bfc154ca15bd2c1a175a8928fcfc68e45d4"), looks := true }, kinds := [], alts := [], laidByText := true, laidKinds := [.data, .data, .data, .sentinel, .sentinel, .data, .data], laidTests := true, laidLooks := .later }
def LintLessUptoCardSaid : Prop := Claim7.holds Tryz.pinned (.plain (OpenSpec.upto lintLessSpec)) lintLessUptoCard

/-- THE SECOND FORM's CARD OF 'pavanelaw10.LintWaits'. -/
def lintWaitsUptoCard : Claim7 := { stood := { row := lintWaitsUptoRow, standIns := [], harness := (true, "d9cddfbddd5589ccf3f53d34944c0bfc154ca15bd2c1a175a8928fcfc68e45d4"), looks := true }, kinds := [], alts := [], laidByText := true, laidKinds := [.data, .data, .data, .sentinel, .sentinel, .data, .data], laidTests := true, laidLooks := .later }
def LintWaitsUptoCardSaid : Prop := Claim7.holds Tryz.pinned (.plain (OpenSpec.upto lintWaitsSpec)) lintWaitsUptoCard
end Rows
end Go.Proofs.YtocecpghoncmgaaGreatDoor
