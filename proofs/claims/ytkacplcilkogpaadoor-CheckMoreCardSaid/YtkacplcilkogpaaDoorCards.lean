/-
  DERIVED. GIVEN WITH THE SEED: THE CARDS: each row of YtkacplcilkogpaaDoorRows.lean that lists a variable, with what it lists TIED to the program's text (the seventh form; the later family's looks); each row that meets fmt, with fmt's text TOLD by the authors' own Lean function (tested against real Go, not proved from fmt's source: count such statements apart). THE CARD IS WHAT COUNTS. Prove the row's statement (the work); the ties are given (YtkacplcilkogpaaDoorTie.lean); close each card by the builder's one call (the guide's Derived/Test/ToyasCard.lean, 'card_holds'). Laid BY PROGRAM, IN A SANDBOX (cutbox-door.mjs). By AI agents, Wed Nov 11 2026. No macro, syntax, notation, axiom, sorry.
-/
import Derived.Test.YtkacplcilkogpaaDoorRows
import GoSem.ClaimSeven
namespace Go.Proofs.YtkacplcilkogpaaDoor
namespace Rows

/-- THE TIED CARD OF 'corrallaw17.CheckDecls'. -/
def checkDeclsCard : Claim7 := { stood := { row := checkDeclsRow, standIns := [], harness := (true, "f6a202b3e3a02cb4afec8a6a218f77060cf85fad26df1cfa5178dcaf5e709943"), looks := true }, kinds := [], alts := [], laidByText := true, laidKinds := [.data, .data, .data, .sentinel, .sentinel, .data], laidTests := true, laidLooks := .later }
def CheckDeclsCardSaid : Prop := Claim7.holds Tryd.pinned (.plain (OpenSpec.ofChange checkDeclsSpec)) checkDeclsCard

/-- THE TIED CARD OF 'corrallaw17.CheckFree'. -/
def checkFreeCard : Claim7 := { stood := { row := checkFreeRow, standIns := [], harness := (true, "f6a202b3e3a02cb4afec8a6a218f77060cf85fad26df1cfa5178dcaf5e709943"), looks := true }, kinds := [], alts := [], laidByText := true, laidKinds := [.data, .data, .data, .sentinel, .sentinel, .data], laidTests := true, laidLooks := .later }
def CheckFreeCardSaid : Prop := Claim7.holds Tryd.pinned (.plain (OpenSpec.ofChange checkFreeSpec)) checkFreeCard

/-- THE TIED CARD OF 'corrallaw17.CheckMore'. -/
def checkMoreCard : Claim7 := { stood := { row := checkMoreRow, standIns := [], harness := (true, "f6a202b3e3a02cb4afec8a6a218f77060cf85fad26df1cfa5178dcaf5e709943"), looks := true }, kinds := [], alts := [], laidByText := true, laidKinds := [.data, .data, .data, .sentinel, .sentinel, .data], laidTests := true, laidLooks := .later }
def CheckMoreCardSaid : Prop := Claim7.holds Tryd.pinned (.plain (OpenSpec.ofChange checkMoreSpec)) checkMoreCard

/-- THE TIED CARD OF 'corrallaw17.CheckNames'. -/
def checkNamesCard : Claim7 := { stood := { row := checkNamesRow, standIns := [], harness := (true, "f6a202b3e3a02cb4afec8a6a218f77060cf85fad26df1cfa5178dcaf5e709943"), looks := true }, kinds := [], alts := [], laidByText := true, laidKinds := [.data, .data, .data, .sentinel, .sentinel, .data], laidTests := true, laidLooks := .later }
def CheckNamesCardSaid : Prop := Claim7.holds Tryd.pinned (.plain (OpenSpec.ofChange checkNamesSpec)) checkNamesCard

/-- THE SECOND FORM's CARD OF 'corrallaw17.CheckDecls'. -/
def checkDeclsUptoCard : Claim7 := { stood := { row := checkDeclsUptoRow, standIns := [], harness := (true, "f6a202b3e3a02cb4afec8a6a218f77060cf85fad26df1cfa5178dcaf5e709943"), looks := true }, kinds := [], alts := [], laidByText := true, laidKinds := [.data, .data, .data, .sentinel, .sentinel, .data], laidTests := true, laidLooks := .later }
def CheckDeclsUptoCardSaid : Prop := Claim7.holds Tryd.pinned (.plain (OpenSpec.upto checkDeclsSpec)) checkDeclsUptoCard

/-- THE SECOND FORM's CARD OF 'corrallaw17.CheckFree'. -/
def checkFreeUptoCard : Claim7 := { stood := { row := checkFreeUptoRow, standIns := [], harness := (true, "f6a202b3e3a02cb4afec8a6a218f77060cf85fad26df1cfa5178dcaf5e709943"), looks := true }, kinds := [], alts := [], laidByText := true, laidKinds := [.data, .data, .data, .sentinel, .sentinel, .data], laidTests := true, laidLooks := .later }
def CheckFreeUptoCardSaid : Prop := Claim7.holds Tryd.pinned (.plain (OpenSpec.upto checkFreeSpec)) checkFreeUptoCard

/-- THE SECOND FORM's CARD OF 'corrallaw17.CheckMore'. -/
def checkMoreUptoCard : Claim7 := { stood := { row := checkMoreUptoRow, standIns := [], harness := (true, "f6a202b3e3a02cb4afec8a6a218f77060cf85fad26df1cfa5178dcaf5e709943"), looks := true }, kinds := [], alts := [], laidByText := true, laidKinds := [.data, .data, .data, .sentinel, .sentinel, .data], laidTests := true, laidLooks := .later }
def CheckMoreUptoCardSaid : Prop := Claim7.holds Tryd.pinned (.plain (OpenSpec.upto checkMoreSpec)) checkMoreUptoCard

/-- THE SECOND FORM's CARD OF 'corrallaw17.CheckNames'. -/
def checkNamesUptoCard : Claim7 := { stood := { row := checkNamesUptoRow, standIns := [], harness := (true, "f6a202b3e3a02cb4afec8a6a218f77060cf85fad26df1cfa5178dcaf5e709943"), looks := true }, kinds := [], alts := [], laidByText := true, laidKinds := [.data, .data, .data, .sentinel, .sentinel, .data], laidTests := true, laidLooks := .later }
def CheckNamesUptoCardSaid : Prop := Claim7.holds Tryd.pinned (.plain (OpenSpec.upto checkNamesSpec)) checkNamesUptoCard
end Rows
end Go.Proofs.YtkacplcilkogpaaDoor
