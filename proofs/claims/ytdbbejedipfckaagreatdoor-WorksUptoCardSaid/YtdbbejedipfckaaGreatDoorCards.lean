/-
  DERIVED. GIVEN WITH THE SEED: THE CARDS: each row of YtdbbejedipfckaaGreatDoorRows.lean that lists a variable, with what it lists TIED to the program's text (the seventh form; the later family's looks); each row that meets fmt, with fmt's text TOLD by the authors' own Lean function (tested against real Go, not proved from fmt's source: count such statements apart). THE CARD IS WHAT COUNTS. Prove the row's statement (the work); the ties are given (YtdbbejedipfckaaGreatDoorTie.lean); close each card by the builder's one call (the guide's Derived/Test/ToyasCard.lean, 'card_holds'). Laid BY PROGRAM, IN A SANDBOX (cutbox-door.mjs). By AI agents, Wed Nov 11 2026. No macro, syntax, notation, axiom, sorry.
-/
import Derived.Test.YtdbbejedipfckaaGreatDoorRows
import GoSem.ClaimSeven
namespace Go.Proofs.YtdbbejedipfckaaGreatDoor
namespace Rows

/-- THE TIED CARD OF 'gleanlaw.Works'. -/
def worksCard : Claim7 := { stood := { row := worksRow, standIns := [], harness := (true, "7b02eaf74b664a6704bf054b7acff560d67fb94529c696514a98bdb412d84114"), looks := false }, kinds := [], alts := [], laidByText := true, laidKinds := [.data, .data, .data], laidTests := true, laidLooks := .later }
def WorksCardSaid : Prop := Claim7.holds Tryz.pinned (.plain (OpenSpec.ofChange worksSpec)) worksCard

/-- THE TIED CARD OF 'gleanlaw.Steals'. -/
def stealsCard : Claim7 := { stood := { row := stealsRow, standIns := [], harness := (true, "7b02eaf74b664a6704bf054b7acff560d67fb94529c696514a98bdb412d84114"), looks := false }, kinds := [], alts := [], laidByText := true, laidKinds := [.data, .data, .data], laidTests := true, laidLooks := .later }
def StealsCardSaid : Prop := Claim7.holds Tryz.pinned (.plain (OpenSpec.ofChange stealsSpec)) stealsCard

/-- THE TIED CARD OF 'gleankeep.Once'. -/
def onceCard : Claim7 := { stood := { row := onceRow, standIns := [], harness := (true, "7b02eaf74b664a6704bf054b7acff560d67fb94529c696514a98bdb412d84114"), looks := false }, kinds := [], alts := [], laidByText := true, laidKinds := [.data, .data, .data], laidTests := true, laidLooks := .later }
def OnceCardSaid : Prop := Claim7.holds Tryz.pinned (.plain (OpenSpec.ofChange onceSpec)) onceCard

/-- THE TIED CARD OF 'gleankeep.Safe'. -/
def safeCard : Claim7 := { stood := { row := safeRow, standIns := [], harness := (true, "7b02eaf74b664a6704bf054b7acff560d67fb94529c696514a98bdb412d84114"), looks := false }, kinds := [], alts := [], laidByText := true, laidKinds := [.data, .data, .data], laidTests := true, laidLooks := .later }
def SafeCardSaid : Prop := Claim7.holds Tryz.pinned (.plain (OpenSpec.ofChange safeSpec)) safeCard

/-- THE TIED CARD OF 'gleankeep.Early'. -/
def earlyCard : Claim7 := { stood := { row := earlyRow, standIns := [], harness := (true, "7b02eaf74b664a6704bf054b7acff560d67fb94529c696514a98bdb412d84114"), looks := false }, kinds := [], alts := [], laidByText := true, laidKinds := [.data, .data, .data], laidTests := true, laidLooks := .later }
def EarlyCardSaid : Prop := Claim7.holds Tryz.pinned (.plain (OpenSpec.ofChange earlySpec)) earlyCard

/-- THE SECOND FORM's CARD OF 'gleanlaw.Works'. -/
def worksUptoCard : Claim7 := { stood := { row := worksUptoRow, standIns := [], harness := (true, "7b02eaf74b664a6704bf054b7acff560d67fb94529c696514a98bdb412d84114"), looks := false }, kinds := [], alts := [], laidByText := true, laidKinds := [.data, .data, .data], laidTests := true, laidLooks := .later }
def WorksUptoCardSaid : Prop := Claim7.holds Tryz.pinned (.plain (OpenSpec.upto worksSpec)) worksUptoCard

/-- THE SECOND FORM's CARD OF 'gleanlaw.Steals'. -/
def stealsUptoCard : Claim7 := { stood := { row := stealsUptoRow, standIns := [], harness := (true, "7b02eaf74b664a6704bf054b7acff560d67fb94529c696514a98bdb412d84114"), looks := false }, kinds := [], alts := [], laidByText := true, laidKinds := [.data, .data, .data], laidTests := true, laidLooks := .later }
def StealsUptoCardSaid : Prop := Claim7.holds Tryz.pinned (.plain (OpenSpec.upto stealsSpec)) stealsUptoCard

/-- THE SECOND FORM's CARD OF 'gleankeep.Once'. -/
def onceUptoCard : Claim7 := { stood := { row := onceUptoRow, standIns := [], harness := (true, "7b02eaf74b664a6704bf054b7acff560d67fb94529c696514a98bdb412d84114"), looks := false }, kinds := [], alts := [], laidByText := true, laidKinds := [.data, .data, .data], laidTests := true, laidLooks := .later }
def OnceUptoCardSaid : Prop := Claim7.holds Tryz.pinned (.plain (OpenSpec.upto onceSpec)) onceUptoCard

/-- THE SECOND FORM's CARD OF 'gleankeep.Safe'. -/
def safeUptoCard : Claim7 := { stood := { row := safeUptoRow, standIns := [], harness := (true, "7b02eaf74b664a6704bf054b7acff560d67fb94529c696514a98bdb412d84114"), looks := false }, kinds := [], alts := [], laidByText := true, laidKinds := [.data, .data, .data], laidTests := true, laidLooks := .later }
def SafeUptoCardSaid : Prop := Claim7.holds Tryz.pinned (.plain (OpenSpec.upto safeSpec)) safeUptoCard

/-- THE SECOND FORM's CARD OF 'gleankeep.Early'. -/
def earlyUptoCard : Claim7 := { stood := { row := earlyUptoRow, standIns := [], harness := (true, "7b02eaf74b664a6704bf054b7acff560d67fb94529c696514a98bdb412d84114"), looks := false }, kinds := [], alts := [], laidByText := true, laidKinds := [.data, .data, .data], laidTests := true, laidLooks := .later }
def EarlyUptoCardSaid : Prop := Claim7.holds Tryz.pinned (.plain (OpenSpec.upto earlySpec)) earlyUptoCard
end Rows
end Go.Proofs.YtdbbejedipfckaaGreatDoor
