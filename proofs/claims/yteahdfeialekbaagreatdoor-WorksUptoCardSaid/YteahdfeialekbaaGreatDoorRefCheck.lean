/-
  gleanref's Run.waves and Run.Check, the document's own answers.
-/
import Derived.Test.YteahdfeialekbaaGreatDoorRefPass
import Derived.Test.YteahdfeialekbaaGreatDoorXAgain
namespace Go.Proofs.YteahdfeialekbaaGreatDoor
open Go Go.RowKit
end Go.Proofs.YteahdfeialekbaaGreatDoor
