/-
  DERIVED. GIVEN WITH THE SEED: THE CARDS: each row of YteahdfeialekbaaGreatDoorRows.lean that lists a variable, with what it lists TIED to the program's text (the seventh form; the later family's looks); each row that meets fmt, with fmt's text TOLD by the authors' own Lean function (tested against real Go, not proved from fmt's source: count such statements apart). THE CARD IS WHAT COUNTS. Prove the row's statement (the work); the ties are given (YteahdfeialekbaaGreatDoorTie.lean); close each card by the builder's one call (the guide's Derived/Test/ToyasCard.lean, 'card_holds'). Laid BY PROGRAM, IN A SANDBOX (cutbox-door.mjs). By AI agents, Wed Nov 11 2026. No macro, syntax, notation, axiom, sorry.
-/
import Derived.Test.YteahdfeialekbaaGreatDoorRows
import GoSem.ClaimSeven
namespace Go.Proofs.YteahdfeialekbaaGreatDoor
namespace Rows

/-- THE TIED CARD OF 'gleanlaw.Works'. -/
def worksCard : Claim7 := { stood := { row := worksRow, standIns := [], harness := (true, "b77ee2ae6f90ed4c4a2e61b2a424d66ec70b86ca6eec344754a6102eaa16b761"), looks := false }, kinds := [], alts := [], laidByText := true, laidKinds := [.data, .data, .data], laidTests := true, laidLooks := .later }
def WorksCardSaid : Prop := Claim7.holds Tryz.pinned (.plain (OpenSpec.ofChange worksSpec)) worksCard

/-- THE TIED CARD OF 'gleanlaw.Steals'. -/
def stealsCard : Claim7 := { stood := { row := stealsRow, standIns := [], harness := (true, "b77ee2ae6f90ed4c4a2e61b2a424d66ec70b86ca6eec344754a6102eaa16b761"), looks := false }, kinds := [], alts := [], laidByText := true, laidKinds := [.data, .data, .data], laidTests := true, laidLooks := .later }
def StealsCardSaid : Prop := Claim7.holds Tryz.pinned (.plain (OpenSpec.ofChange stealsSpec)) stealsCard

/-- THE TIED CARD OF 'gleanlaw.Delivers'. -/
def deliversCard : Claim7 := { stood := { row := deliversRow, standIns := [], harness := (true, "b77ee2ae6f90ed4c4a2e61b2a424d66ec70b86ca6eec344754a6102eaa16b761"), looks := false }, kinds := [], alts := [], laidByText := true, laidKinds := [.data, .data, .data], laidTests := true, laidLooks := .later }
def DeliversCardSaid : Prop := Claim7.holds Tryz.pinned (.plain (OpenSpec.ofChange deliversSpec)) deliversCard

/-- THE TIED CARD OF 'gleankeep.Once'. -/
def onceCard : Claim7 := { stood := { row := onceRow, standIns := [], harness := (true, "b77ee2ae6f90ed4c4a2e61b2a424d66ec70b86ca6eec344754a6102eaa16b761"), looks := false }, kinds := [], alts := [], laidByText := true, laidKinds := [.data, .data, .data], laidTests := true, laidLooks := .later }
def OnceCardSaid : Prop := Claim7.holds Tryz.pinned (.plain (OpenSpec.ofChange onceSpec)) onceCard

/-- THE TIED CARD OF 'gleankeep.Safe'. -/
def safeCard : Claim7 := { stood := { row := safeRow, standIns := [], harness := (true, "b77ee2ae6f90ed4c4a2e61b2a424d66ec70b86ca6eec344754a6102eaa16b761"), looks := false }, kinds := [], alts := [], laidByText := true, laidKinds := [.data, .data, .data], laidTests := true, laidLooks := .later }
def SafeCardSaid : Prop := Claim7.holds Tryz.pinned (.plain (OpenSpec.ofChange safeSpec)) safeCard

/-- THE TIED CARD OF 'gleankeep.Early'. -/
def earlyCard : Claim7 := { stood := { row := earlyRow, standIns := [], harness := (true, "b77ee2ae6f90ed4c4a2e61b2a424d66ec70b86ca6eec344754a6102eaa16b761"), looks := false }, kinds := [], alts := [], laidByText := true, laidKinds := [.data, .data, .data], laidTests := true, laidLooks := .later }
def EarlyCardSaid : Prop := Claim7.holds Tryz.pinned (.plain (OpenSpec.ofChange earlySpec)) earlyCard

/-- THE SECOND FORM's CARD OF 'gleanlaw.Works'. -/
def worksUptoCard : Claim7 := { stood := { row := worksUptoRow, standIns := [], harness := (true, "b77ee2ae6f90ed4c4a2e61b2a424d66ec70b86ca6eec344754a6102eaa16b761"), looks := false }, kinds := [], alts := [], laidByText := true, laidKinds := [.data, .data, .data], laidTests := true, laidLooks := .later }
def WorksUptoCardSaid : Prop := Claim7.holds Tryz.pinned (.plain (OpenSpec.upto worksSpec)) worksUptoCard

/-- THE SECOND FORM's CARD OF 'gleanlaw.Steals'. -/
def stealsUptoCard : Claim7 := { stood := { row := stealsUptoRow, standIns := [], harness := (true, "b77ee2ae6f90ed4c4a2e61b2a424d66ec70b86ca6eec344754a6102eaa16b761"), looks := false }, kinds := [], alts := [], laidByText := true, laidKinds := [.data, .data, .data], laidTests := true, laidLooks := .later }
def StealsUptoCardSaid : Prop := Claim7.holds Tryz.pinned (.plain (OpenSpec.upto stealsSpec)) stealsUptoCard

/-- THE SECOND FORM's CARD OF 'gleanlaw.Delivers'. -/
def deliversUptoCard : Claim7 := { stood := { row := deliversUptoRow, standIns := [], harness := (true, "b77ee2ae6f90ed4c4a2e61b2a424d66ec70b86ca6eec344754a6102eaa16b761"), looks := false }, kinds := [], alts := [], laidByText := true, laidKinds := [.data, .data, .data], laidTests := true, laidLooks := .later }
def DeliversUptoCardSaid : Prop := Claim7.holds Tryz.pinned (.plain (OpenSpec.upto deliversSpec)) deliversUptoCard

/-- THE SECOND FORM's CARD OF 'gleankeep.Once'. -/
def onceUptoCard : Claim7 := { stood := { row := onceUptoRow, standIns := [], harness := (true, "b77ee2ae6f90ed4c4a2e61b2a424d66ec70b86ca6eec344754a6102eaa16b761"), looks := false }, kinds := [], alts := [], laidByText := true, laidKinds := [.data, .data, .data], laidTests := true, laidLooks := .later }
def OnceUptoCardSaid : Prop := Claim7.holds Tryz.pinned (.plain (OpenSpec.upto onceSpec)) onceUptoCard

/-- THE SECOND FORM's CARD OF 'gleankeep.Safe'. -/
def safeUptoCard : Claim7 := { stood := { row := safeUptoRow, standIns := [], harness := (true, "b77ee2ae6f90ed4c4a2e61b2a424d66ec70b86ca6eec344754a6102eaa16b761"), looks := false }, kinds := [], alts := [], laidByText := true, laidKinds := [.data, .data, .data], laidTests := true, laidLooks := .later }
def SafeUptoCardSaid : Prop := Claim7.holds Tryz.pinned (.plain (OpenSpec.upto safeSpec)) safeUptoCard

/-- THE SECOND FORM's CARD OF 'gleankeep.Early'. -/
def earlyUptoCard : Claim7 := { stood := { row := earlyUptoRow, standIns := [], harness := (true, "b77ee2ae6f90ed4c4a2e61b2a424d66ec70b86ca6eec344754a6102eaa16b761"), looks := false }, kinds := [], alts := [], laidByText := true, laidKinds := [.data, .data, .data], laidTests := true, laidLooks := .later }
def EarlyUptoCardSaid : Prop := Claim7.holds Tryz.pinned (.plain (OpenSpec.upto earlySpec)) earlyUptoCard
end Rows
end Go.Proofs.YteahdfeialekbaaGreatDoor
