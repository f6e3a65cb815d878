/-
  DERIVED. GIVEN WITH THE SEED: THE CARDS: each row of YtfanaanofjhlkaaGreatDoorRows.lean that lists a variable, with what it lists TIED to the program's text (the seventh form; the later family's looks); each row that meets fmt, with fmt's text TOLD by the authors' own Lean function (tested against real Go, not proved from fmt's source: count such statements apart). THE CARD IS WHAT COUNTS. Prove the row's statement (the work); the ties are given (YtfanaanofjhlkaaGreatDoorTie.lean); close each card by the builder's one call (the guide's Derived/Test/ToyasCard.lean, 'card_holds'). Laid BY PROGRAM, IN A SANDBOX (cutbox-door.mjs). By AI agents, Wed Nov 11 2026. No macro, syntax, notation, axiom, sorry.
-/
import Derived.Test.YtfanaanofjhlkaaGreatDoorRows
import GoSem.ClaimSeven
namespace Go.Proofs.YtfanaanofjhlkaaGreatDoor
namespace Rows

/-- THE TIED CARD OF 'gleanlaw.Works'. -/
def worksCard : Claim7 := { stood := { row := worksRow, standIns := [], harness := (true, "a9c910501e7d32f524cb7c5343699f14a8d974f4b54443b5b1b34759b612d2f9"), looks := false }, kinds := [], alts := [], laidByText := true, laidKinds := [.data, .data, .data], laidTests := true, laidLooks := .later }
def WorksCardSaid : Prop := Claim7.holds Tryz.pinned (.plain (OpenSpec.ofChange worksSpec)) worksCard

/-- THE TIED CARD OF 'gleanlaw.Steals'. -/
def stealsCard : Claim7 := { stood := { row := stealsRow, standIns := [], harness := (true, "a9c910501e7d32f524cb7c5343699f14a8d974f4b54443b5b1b34759b612d2f9"), looks := false }, kinds := [], alts := [], laidByText := true, laidKinds := [.data, .data, .data], laidTests := true, laidLooks := .later }
def StealsCardSaid : Prop := Claim7.holds Tryz.pinned (.plain (OpenSpec.ofChange stealsSpec)) stealsCard

/-- THE TIED CARD OF 'gleanlaw.Delivers'. -/
def deliversCard : Claim7 := { stood := { row := deliversRow, standIns := [], harness := (true, "a9c910501e7d32f524cb7c5343699f14a8d974f4b54443b5b1b34759b612d2f9"), looks := false }, kinds := [], alts := [], laidByText := true, laidKinds := [.data, .data, .data], laidTests := true, laidLooks := .later }
def DeliversCardSaid : Prop := Claim7.holds Tryz.pinned (.plain (OpenSpec.ofChange deliversSpec)) deliversCard

/-- THE TIED CARD OF 'gleanlaw.All'. -/
def allCard : Claim7 := { stood := { row := allRow, standIns := [], harness := (true, "a9c910501e7d32f524cb7c5343699f14a8d974f4b54443b5b1b34759b612d2f9"), looks := false }, kinds := [], alts := [], laidByText := true, laidKinds := [.data, .data, .data], laidTests := true, laidLooks := .later }
def AllCardSaid : Prop := Claim7.holds Tryz.pinned (.plain (OpenSpec.ofChange allSpec)) allCard

/-- THE TIED CARD OF 'gleankeep.Once'. -/
def onceCard : Claim7 := { stood := { row := onceRow, standIns := [], harness := (true, "a9c910501e7d32f524cb7c5343699f14a8d974f4b54443b5b1b34759b612d2f9"), looks := false }, kinds := [], alts := [], laidByText := true, laidKinds := [.data, .data, .data], laidTests := true, laidLooks := .later }
def OnceCardSaid : Prop := Claim7.holds Tryz.pinned (.plain (OpenSpec.ofChange onceSpec)) onceCard

/-- THE TIED CARD OF 'gleankeep.Safe'. -/
def safeCard : Claim7 := { stood := { row := safeRow, standIns := [], harness := (true, "a9c910501e7d32f524cb7c5343699f14a8d974f4b54443b5b1b34759b612d2f9"), looks := false }, kinds := [], alts := [], laidByText := true, laidKinds := [.data, .data, .data], laidTests := true, laidLooks := .later }
def SafeCardSaid : Prop := Claim7.holds Tryz.pinned (.plain (OpenSpec.ofChange safeSpec)) safeCard

/-- THE TIED CARD OF 'gleankeep.Ends'. -/
def endsCard : Claim7 := { stood := { row := endsRow, standIns := [], harness := (true, "a9c910501e7d32f524cb7c5343699f14a8d974f4b54443b5b1b34759b612d2f9"), looks := false }, kinds := [], alts := [], laidByText := true, laidKinds := [.data, .data, .data], laidTests := true, laidLooks := .later }
def EndsCardSaid : Prop := Claim7.holds Tryz.pinned (.plain (OpenSpec.ofChange endsSpec)) endsCard

/-- THE TIED CARD OF 'gleankeep.Early'. -/
def earlyCard : Claim7 := { stood := { row := earlyRow, standIns := [], harness := (true, "a9c910501e7d32f524cb7c5343699f14a8d974f4b54443b5b1b34759b612d2f9"), looks := false }, kinds := [], alts := [], laidByText := true, laidKinds := [.data, .data, .data], laidTests := true, laidLooks := .later }
def EarlyCardSaid : Prop := Claim7.holds Tryz.pinned (.plain (OpenSpec.ofChange earlySpec)) earlyCard

/-- THE TIED CARD OF 'gleankeep.Stuck'. -/
def stuckCard : Claim7 := { stood := { row := stuckRow, standIns := [], harness := (true, "a9c910501e7d32f524cb7c5343699f14a8d974f4b54443b5b1b34759b612d2f9"), looks := false }, kinds := [], alts := [], laidByText := true, laidKinds := [.data, .data, .data], laidTests := true, laidLooks := .later }
def StuckCardSaid : Prop := Claim7.holds Tryz.pinned (.plain (OpenSpec.ofChange stuckSpec)) stuckCard

/-- THE SECOND FORM's CARD OF 'gleanlaw.Works'. -/
def worksUptoCard : Claim7 := { stood := { row := worksUptoRow, standIns := [], harness := (true, "a9c910501e7d32f524cb7c5343699f14a8d974f4b54443b5b1b34759b612d2f9"), looks := false }, kinds := [], alts := [], laidByText := true, laidKinds := [.data, .data, .data], laidTests := true, laidLooks := .later }
def WorksUptoCardSaid : Prop := Claim7.holds Tryz.pinned (.plain (OpenSpec.upto worksSpec)) worksUptoCard

/-- THE SECOND FORM's CARD OF 'gleanlaw.Steals'. -/
def stealsUptoCard : Claim7 := { stood := { row := stealsUptoRow, standIns := [], harness := (true, "a9c910501e7d32f524cb7c5343699f14a8d974f4b54443b5b1b34759b612d2f9"), looks := false }, kinds := [], alts := [], laidByText := true, laidKinds := [.data, .data, .data], laidTests := true, laidLooks := .later }
def StealsUptoCardSaid : Prop := Claim7.holds Tryz.pinned (.plain (OpenSpec.upto stealsSpec)) stealsUptoCard

/-- THE SECOND FORM's CARD OF 'gleanlaw.Delivers'. -/
def deliversUptoCard : Claim7 := { stood := { row := deliversUptoRow, standIns := [], harness := (true, "a9c910501e7d32f524cb7c5343699f14a8d974f4b54443b5b1b34759b612d2f9"), looks := false }, kinds := [], alts := [], laidByText := true, laidKinds := [.data, .data, .data], laidTests := true, laidLooks := .later }
def DeliversUptoCardSaid : Prop := Claim7.holds Tryz.pinned (.plain (OpenSpec.upto deliversSpec)) deliversUptoCard

/-- THE SECOND FORM's CARD OF 'gleanlaw.All'. -/
def allUptoCard : Claim7 := { stood := { row := allUptoRow, standIns := [], harness := (true, "a9c910501e7d32f524cb7c5343699f14a8d974f4b54443b5b1b34759b612d2f9"), looks := false }, kinds := [], alts := [], laidByText := true, laidKinds := [.data, .data, .data], laidTests := true, laidLooks := .later }
def AllUptoCardSaid : Prop := Claim7.holds Tryz.pinned (.plain (OpenSpec.upto allSpec)) allUptoCard

/-- THE SECOND FORM's CARD OF 'gleankeep.Once'. -/
def onceUptoCard : Claim7 := { stood := { row := onceUptoRow, standIns := [], harness := (true, "a9c910501e7d32f524cb7c5343699f14a8d974f4b54443b5b1b34759b612d2f9"), looks := false }, kinds := [], alts := [], laidByText := true, laidKinds := [.data, .data, .data], laidTests := true, laidLooks := .later }
def OnceUptoCardSaid : Prop := Claim7.holds Tryz.pinned (.plain (OpenSpec.upto onceSpec)) onceUptoCard

/-- THE SECOND FORM's CARD OF 'gleankeep.Safe'. -/
def safeUptoCard : Claim7 := { stood := { row := safeUptoRow, standIns := [], harness := (true, "a9c910501e7d32f524cb7c5343699f14a8d974f4b54443b5b1b34759b612d2f9"), looks := false }, kinds := [], alts := [], laidByText := true, laidKinds := [.data, .data, .data], laidTests := true, laidLooks := .later }
def SafeUptoCardSaid : Prop := Claim7.holds Tryz.pinned (.plain (OpenSpec.upto safeSpec)) safeUptoCard

/-- THE SECOND FORM's CARD OF 'gleankeep.Ends'. -/
def endsUptoCard : Claim7 := { stood := { row := endsUptoRow, standIns := [], harness := (true, "a9c910501e7d32f524cb7c5343699f14a8d974f4b54443b5b1b34759b612d2f9"), looks := false }, kinds := [], alts := [], laidByText := true, laidKinds := [.data, .data, .data], laidTests := true, laidLooks := .later }
def EndsUptoCardSaid : Prop := Claim7.holds Tryz.pinned (.plain (OpenSpec.upto endsSpec)) endsUptoCard

/-- THE SECOND FORM's CARD OF 'gleankeep.Early'. -/
def earlyUptoCard : Claim7 := { stood := { row := earlyUptoRow, standIns := [], harness := (true, "a9c910501e7d32f524cb7c5343699f14a8d974f4b54443b5b1b34759b612d2f9"), looks := false }, kinds := [], alts := [], laidByText := true, laidKinds := [.data, .data, .data], laidTests := true, laidLooks := .later }
def EarlyUptoCardSaid : Prop := Claim7.holds Tryz.pinned (.plain (OpenSpec.upto earlySpec)) earlyUptoCard

/-- THE SECOND FORM's CARD OF 'gleankeep.Stuck'. -/
def stuckUptoCard : Claim7 := { stood := { row := stuckUptoRow, standIns := [], harness := (true, "a9c910501e7d32f524cb7c5343699f14a8d974f4b54443b5b1b34759b612d2f9"), looks := false }, kinds := [], alts := [], laidByText := true, laidKinds := [.data, .data, .data], laidTests := true, laidLooks := .later }
def StuckUptoCardSaid : Prop := Claim7.holds Tryz.pinned (.plain (OpenSpec.upto stuckSpec)) stuckUptoCard
end Rows
end Go.Proofs.YtfanaanofjhlkaaGreatDoor
