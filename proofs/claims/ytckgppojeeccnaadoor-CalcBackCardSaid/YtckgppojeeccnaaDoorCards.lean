/-
  DERIVED. GIVEN WITH THE SEED: THE CARDS: each row of YtckgppojeeccnaaDoorRows.lean that lists a variable, with what it lists TIED to the program's text (the seventh form; the later family's looks); each row that meets fmt, with fmt's text TOLD by the authors' own Lean function (tested against real Go, not proved from fmt's source: count such statements apart). THE CARD IS WHAT COUNTS. Prove the row's statement (the work); the ties are given (YtckgppojeeccnaaDoorTie.lean); close each card by the builder's one call (the guide's Derived/Test/ToyasCard.lean, 'card_holds'). Laid BY PROGRAM, IN A SANDBOX (cutbox-door.mjs). By AI agents, Wed Nov 11 2026. No macro, syntax, notation, axiom, sorry.
-/
import Derived.Test.YtckgppojeeccnaaDoorRows
import GoSem.ClaimSeven
namespace Go.Proofs.YtckgppojeeccnaaDoor
namespace Rows

/-- THE TIED CARD OF 'pavanelaw03.CalcDoes'. -/
def calcDoesCard : Claim7 := { stood := { row := calcDoesRow, standIns := [], harness := (true, "9b6fc9663bcf4e00e6686250403e4002987c446e89f597663dfa89a722ec3e75"), looks := true }, kinds := [], alts := [], laidByText := true, laidKinds := [.data, .data, .data], laidTests := true, laidLooks := .later }
def CalcDoesCardSaid : Prop := Claim7.holds Tryd.pinned (.plain (OpenSpec.ofChange calcDoesSpec)) calcDoesCard

/-- THE TIED CARD OF 'pavanelaw03.CalcOnes'. -/
def calcOnesCard : Claim7 := { stood := { row := calcOnesRow, standIns := [], harness := (true, "9b6fc9663bcf4e00e6686250403e4002987c446e89f597663dfa89a722ec3e75"), looks := true }, kinds := [], alts := [], laidByText := true, laidKinds := [.data, .data, .data], laidTests := true, laidLooks := .later }
def CalcOnesCardSaid : Prop := Claim7.holds Tryd.pinned (.plain (OpenSpec.ofChange calcOnesSpec)) calcOnesCard

/-- THE TIED CARD OF 'pavanelaw03.CalcTexts'. -/
def calcTextsCard : Claim7 := { stood := { row := calcTextsRow, standIns := [], harness := (true, "9b6fc9663bcf4e00e6686250403e4002987c446e89f597663dfa89a722ec3e75"), looks := true }, kinds := [], alts := [], laidByText := true, laidKinds := [.data, .data, .data, .sentinel, .sentinel], laidTests := true, laidLooks := .later }
def CalcTextsCardSaid : Prop := Claim7.holds Tryd.pinned (.plain (OpenSpec.ofChange calcTextsSpec)) calcTextsCard

/-- THE TIED CARD OF 'pavanelaw03.CalcRounds'. -/
def calcRoundsCard : Claim7 := { stood := { row := calcRoundsRow, standIns := [], harness := (true, "9b6fc9663bcf4e00e6686250403e4002987c446e89f597663dfa89a722ec3e75"), looks := true }, kinds := [], alts := [], laidByText := true, laidKinds := [.data, .data, .data], laidTests := true, laidLooks := .later }
def CalcRoundsCardSaid : Prop := Claim7.holds Tryd.pinned (.plain (OpenSpec.ofChange calcRoundsSpec)) calcRoundsCard

/-- THE TIED CARD OF 'pavanelaw03.CalcOrders'. -/
def calcOrdersCard : Claim7 := { stood := { row := calcOrdersRow, standIns := [], harness := (true, "9b6fc9663bcf4e00e6686250403e4002987c446e89f597663dfa89a722ec3e75"), looks := true }, kinds := [], alts := [], laidByText := true, laidKinds := [.data, .data, .data], laidTests := true, laidLooks := .later }
def CalcOrdersCardSaid : Prop := Claim7.holds Tryd.pinned (.plain (OpenSpec.ofChange calcOrdersSpec)) calcOrdersCard

/-- THE TIED CARD OF 'pavanelaw03.CalcBack'. -/
def calcBackCard : Claim7 := { stood := { row := calcBackRow, standIns := [], harness := (true, "9b6fc9663bcf4e00e6686250403e4002987c446e89f597663dfa89a722ec3e75"), looks := true }, kinds := [], alts := [], laidByText := true, laidKinds := [.data, .data, .data, .sentinel, .sentinel], laidTests := true, laidLooks := .later }
def CalcBackCardSaid : Prop := Claim7.holds Tryd.pinned (.plain (OpenSpec.ofChange calcBackSpec)) calcBackCard

/-- THE SECOND FORM's CARD OF 'pavanelaw03.CalcDoes'. -/
def calcDoesUptoCard : Claim7 := { stood := { row := calcDoesUptoRow, standIns := [], harness := (true, "9b6fc9663bcf4e00e6686250403e4002987c446e89f597663dfa89a722ec3e75"), looks := true }, kinds := [], alts := [], laidByText := true, laidKinds := [.data, .data, .data], laidTests := true, laidLooks := .later }
def CalcDoesUptoCardSaid : Prop := Claim7.holds Tryd.pinned (.plain (OpenSpec.upto calcDoesSpec)) calcDoesUptoCard

/-- THE SECOND FORM's CARD OF 'pavanelaw03.CalcOnes'. -/
def calcOnesUptoCard : Claim7 := { stood := { row := calcOnesUptoRow, standIns := [], harness := (true, "9b6fc9663bcf4e00e6686250403e4002987c446e89f597663dfa89a722ec3e75"), looks := true }, kinds := [], alts := [], laidByText := true, laidKinds := [.data, .data, .data], laidTests := true, laidLooks := .later }
def CalcOnesUptoCardSaid : Prop := Claim7.holds Tryd.pinned (.plain (OpenSpec.upto calcOnesSpec)) calcOnesUptoCard

/-- THE SECOND FORM's CARD OF 'pavanelaw03.CalcTexts'. -/
def calcTextsUptoCard : Claim7 := { stood := { row := calcTextsUptoRow, standIns := [], harness := (true, "9b6fc9663bcf4e00e6686250403e4002987c446e89f597663dfa89a722ec3e75"), looks := true }, kinds := [], alts := [], laidByText := true, laidKinds := [.data, .data, .data, .sentinel, .sentinel], laidTests := true, laidLooks := .later }
def CalcTextsUptoCardSaid : Prop := Claim7.holds Tryd.pinned (.plain (OpenSpec.upto calcTextsSpec)) calcTextsUptoCard

/-- THE SECOND FORM's CARD OF 'pavanelaw03.CalcRounds'. -/
def calcRoundsUptoCard : Claim7 := { stood := { row := calcRoundsUptoRow, standIns := [], harness := (true, "9b6fc9663bcf4e00e6686250403e4002987c446e89f597663dfa89a722ec3e75"), looks := true }, kinds := [], alts := [], laidByText := true, laidKinds := [.data, .data, .data], laidTests := true, laidLooks := .later }
def CalcRoundsUptoCardSaid : Prop := Claim7.holds Tryd.pinned (.plain (OpenSpec.upto calcRoundsSpec)) calcRoundsUptoCard

/-- THE SECOND FORM's CARD OF 'pavanelaw03.CalcOrders'. -/
def calcOrdersUptoCard : Claim7 := { stood := { row := calcOrdersUptoRow, standIns := [], harness := (true, "9b6fc9663bcf4e00e6686250403e4002987c446e89f597663dfa89a722ec3e75"), looks := true }, kinds := [], alts := [], laidByText := true, laidKinds := [.data, .data, .data], laidTests := true, laidLooks := .later }
def CalcOrdersUptoCardSaid : Prop := Claim7.holds Tryd.pinned (.plain (OpenSpec.upto calcOrdersSpec)) calcOrdersUptoCard

/-- THE SECOND FORM's CARD OF 'pavanelaw03.CalcBack'. -/
def calcBackUptoCard : Claim7 := { stood := { row := calcBackUptoRow, standIns := [], harness := (true, "9b6fc9663bcf4e00e6686250403e4002987c446e89f597663dfa89a722ec3e75"), looks := true }, kinds := [], alts := [], laidByText := true, laidKinds := [.data, .data, .data, .sentinel, .sentinel], laidTests := true, laidLooks := .later }
def CalcBackUptoCardSaid : Prop := Claim7.holds Tryd.pinned (.plain (OpenSpec.upto calcBackSpec)) calcBackUptoCard
end Rows
end Go.Proofs.YtckgppojeeccnaaDoor
