/-
  DERIVED. GIVEN WITH THE SEED: THE CARDS: each row of YtfanaanofjhlkaaDoorRows.lean that lists a variable, with what it lists TIED to the program's text (the seventh form; the later family's looks); each row that meets fmt, with fmt's text TOLD by the authors' own Lean function (tested against real Go, not proved from fmt's source: count such statements apart). THE CARD IS WHAT COUNTS. Prove the row's statement (the work); the ties are given (YtfanaanofjhlkaaDoorTie.lean); close each card by the builder's one call (the guide's Derived/Test/ToyasCard.lean, 'card_holds'). Laid BY PROGRAM, IN A SANDBOX (cutbox-door.mjs). By AI agents, Wed Nov 11 2026. No macro, syntax, notation, axiom, sorry.
-/
import Derived.Test.YtfanaanofjhlkaaDoorRows
import GoSem.ClaimSeven
namespace Go.Proofs.YtfanaanofjhlkaaDoor
namespace Rows

/-- THE TIED CARD OF 'gleanlaw.Unfolds'. -/
def unfoldsCard : Claim7 := { stood := { row := unfoldsRow, standIns := [], harness := (true, "c0be8a5572a625b5c8d532270766ea93dcffcdd635a1f7598889faf947bf320a"), looks := false }, kinds := [], alts := [], laidByText := true, laidKinds := [.data, .data, .data], laidTests := true, laidLooks := .later }
def UnfoldsCardSaid : Prop := Claim7.holds Tryd.pinned (.plain (OpenSpec.ofChange unfoldsSpec)) unfoldsCard

/-- THE TIED CARD OF 'gleankeep.Grown'. -/
def grownCard : Claim7 := { stood := { row := grownRow, standIns := [], harness := (true, "c0be8a5572a625b5c8d532270766ea93dcffcdd635a1f7598889faf947bf320a"), looks := false }, kinds := [], alts := [], laidByText := true, laidKinds := [.data, .data, .data], laidTests := true, laidLooks := .later }
def GrownCardSaid : Prop := Claim7.holds Tryd.pinned (.plain (OpenSpec.ofChange grownSpec)) grownCard

/-- THE SECOND FORM's CARD OF 'gleanlaw.Unfolds'. -/
def unfoldsUptoCard : Claim7 := { stood := { row := unfoldsUptoRow, standIns := [], harness := (true, "c0be8a5572a625b5c8d532270766ea93dcffcdd635a1f7598889faf947bf320a"), looks := false }, kinds := [], alts := [], laidByText := true, laidKinds := [.data, .data, .data], laidTests := true, laidLooks := .later }
def UnfoldsUptoCardSaid : Prop := Claim7.holds Tryd.pinned (.plain (OpenSpec.upto unfoldsSpec)) unfoldsUptoCard

/-- THE SECOND FORM's CARD OF 'gleankeep.Grown'. -/
def grownUptoCard : Claim7 := { stood := { row := grownUptoRow, standIns := [], harness := (true, "c0be8a5572a625b5c8d532270766ea93dcffcdd635a1f7598889faf947bf320a"), looks := false }, kinds := [], alts := [], laidByText := true, laidKinds := [.data, .data, .data], laidTests := true, laidLooks := .later }
def GrownUptoCardSaid : Prop := Claim7.holds Tryd.pinned (.plain (OpenSpec.upto grownSpec)) grownUptoCard
end Rows
end Go.Proofs.YtfanaanofjhlkaaDoor
