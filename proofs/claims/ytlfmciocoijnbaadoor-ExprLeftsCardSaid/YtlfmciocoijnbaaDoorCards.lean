/-
  DERIVED. GIVEN WITH THE SEED: THE CARDS: each row of YtlfmciocoijnbaaDoorRows.lean that lists a variable, with what it lists TIED to the program's text (the seventh form; the later family's looks); each row that meets fmt, with fmt's text TOLD by the authors' own Lean function (tested against real Go, not proved from fmt's source: count such statements apart). THE CARD IS WHAT COUNTS. Prove the row's statement (the work); the ties are given (YtlfmciocoijnbaaDoorTie.lean); close each card by the builder's one call (the guide's Derived/Test/ToyasCard.lean, 'card_holds'). Laid BY PROGRAM, IN A SANDBOX (cutbox-door.mjs). By AI agents, Wed Nov 11 2026. No macro, syntax, notation, axiom, sorry.
-/
import Derived.Test.YtlfmciocoijnbaaDoorRows
import GoSem.ClaimSeven
namespace Go.Proofs.YtlfmciocoijnbaaDoor
namespace Rows

/-- THE TIED CARD OF 'pavanelaw05.ExprBack'. -/
def exprBackCard : Claim7 := { stood := { row := exprBackRow, standIns := [], harness := (true, "62cfa2783a9352e246e3ea82ab9d8957793764cd8a460b244aa90352d39d1456"), looks := true }, kinds := [], alts := [], laidByText := true, laidKinds := [.data, .data, .data, .sentinel, .sentinel, .data, .data], laidTests := true, laidLooks := .later }
def ExprBackCardSaid : Prop := Claim7.holds Tryd.pinned (.plain (OpenSpec.ofChange exprBackSpec)) exprBackCard

/-- THE TIED CARD OF 'pavanelaw05.ExprForms'. -/
def exprFormsCard : Claim7 := { stood := { row := exprFormsRow, standIns := [], harness := (true, "62cfa2783a9352e246e3ea82ab9d8957793764cd8a460b244aa90352d39d1456"), looks := true }, kinds := [], alts := [], laidByText := true, laidKinds := [.data, .data, .data, .sentinel, .sentinel, .data, .data], laidTests := true, laidLooks := .later }
def ExprFormsCardSaid : Prop := Claim7.holds Tryd.pinned (.plain (OpenSpec.ofChange exprFormsSpec)) exprFormsCard

/-- THE TIED CARD OF 'pavanelaw05.ExprWraps'. -/
def exprWrapsCard : Claim7 := { stood := { row := exprWrapsRow, standIns := [], harness := (true, "62cfa2783a9352e246e3ea82ab9d8957793764cd8a460b244aa90352d39d1456"), looks := true }, kinds := [], alts := [], laidByText := true, laidKinds := [.data, .data, .data, .sentinel, .sentinel, .data, .data], laidTests := true, laidLooks := .later }
def ExprWrapsCardSaid : Prop := Claim7.holds Tryd.pinned (.plain (OpenSpec.ofChange exprWrapsSpec)) exprWrapsCard

/-- THE TIED CARD OF 'pavanelaw05.ExprLefts'. -/
def exprLeftsCard : Claim7 := { stood := { row := exprLeftsRow, standIns := [], harness := (true, "62cfa2783a9352e246e3ea82ab9d8957793764cd8a460b244aa90352d39d1456"), looks := true }, kinds := [], alts := [], laidByText := true, laidKinds := [.data, .data, .data, .sentinel, .sentinel, .data, .data], laidTests := true, laidLooks := .later }
def ExprLeftsCardSaid : Prop := Claim7.holds Tryd.pinned (.plain (OpenSpec.ofChange exprLeftsSpec)) exprLeftsCard

/-- THE TIED CARD OF 'pavanelaw05.ExprDeeps'. -/
def exprDeepsCard : Claim7 := { stood := { row := exprDeepsRow, standIns := [], harness := (true, "62cfa2783a9352e246e3ea82ab9d8957793764cd8a460b244aa90352d39d1456"), looks := true }, kinds := [], alts := [], laidByText := true, laidKinds := [.data, .data, .data, .sentinel, .sentinel, .data, .data], laidTests := true, laidLooks := .later }
def ExprDeepsCardSaid : Prop := Claim7.holds Tryd.pinned (.plain (OpenSpec.ofChange exprDeepsSpec)) exprDeepsCard

/-- THE SECOND FORM's CARD OF 'pavanelaw05.ExprBack'. -/
def exprBackUptoCard : Claim7 := { stood := { row := exprBackUptoRow, standIns := [], harness := (true, "62cfa2783a9352e246e3ea82ab9d8957793764cd8a460b244aa90352d39d1456"), looks := true }, kinds := [], alts := [], laidByText := true, laidKinds := [.data, .data, .data, .sentinel, .sentinel, .data, .data], laidTests := true, laidLooks := .later }
def ExprBackUptoCardSaid : Prop := Claim7.holds Tryd.pinned (.plain (OpenSpec.upto exprBackSpec)) exprBackUptoCard

/-- THE SECOND FORM's CARD OF 'pavanelaw05.ExprForms'. -/
def exprFormsUptoCard : Claim7 := { stood := { row := exprFormsUptoRow, standIns := [], harness := (true, "62cfa2783a9352e246e3ea82ab9d8957793764cd8a460b244aa90352d39d1456"), looks := true }, kinds := [], alts := [], laidByText := true, laidKinds := [.data, .data, .data, .sentinel, .sentinel, .data, .data], laidTests := true, laidLooks := .later }
def ExprFormsUptoCardSaid : Prop := Claim7.holds Tryd.pinned (.plain (OpenSpec.upto exprFormsSpec)) exprFormsUptoCard

/-- THE SECOND FORM's CARD OF 'pavanelaw05.ExprWraps'. -/
def exprWrapsUptoCard : Claim7 := { stood := { row := exprWrapsUptoRow, standIns := [], harness := (true, "62cfa2783a9352e246e3ea82ab9d8957793764cd8a460b244aa90352d39d1456"), looks := true }, kinds := [], alts := [], laidByText := true, laidKinds := [.data, .data, .data, .sentinel, .sentinel, .data, .data], laidTests := true, laidLooks := .later }
def ExprWrapsUptoCardSaid : Prop := Claim7.holds Tryd.pinned (.plain (OpenSpec.upto exprWrapsSpec)) exprWrapsUptoCard

/-- THE SECOND FORM's CARD OF 'pavanelaw05.ExprLefts'. -/
def exprLeftsUptoCard : Claim7 := { stood := { row := exprLeftsUptoRow, standIns := [], harness := (true, "62cfa2783a9352e246e3ea82ab9d8957793764cd8a460b244aa90352d39d1456"), looks := true }, kinds := [], alts := [], laidByText := true, laidKinds := [.data, .data, .data, .sentinel, .sentinel, .data, .data], laidTests := true, laidLooks := .later }
def ExprLeftsUptoCardSaid : Prop := Claim7.holds Tryd.pinned (.plain (OpenSpec.upto exprLeftsSpec)) exprLeftsUptoCard

/-- THE SECOND FORM's CARD OF 'pavanelaw05.ExprDeeps'. -/
def exprDeepsUptoCard : Claim7 := { stood := { row := exprDeepsUptoRow, standIns := [], harness := (true, "62cfa2783a9352e246e3ea82ab9d8957793764cd8a460b244aa90352d39d1456"), looks := true }, kinds := [], alts := [], laidByText := true, laidKinds := [.data, .data, .data, .sentinel, .sentinel, .data, .data], laidTests := true, laidLooks := .later }
def ExprDeepsUptoCardSaid : Prop := Claim7.holds Tryd.pinned (.plain (OpenSpec.upto exprDeepsSpec)) exprDeepsUptoCard
end Rows
end Go.Proofs.YtlfmciocoijnbaaDoor
