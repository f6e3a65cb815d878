/-
  gleanref's Run.Announced and Run.ring, the document's own answers.
-/
import Derived.Test.YteahdfeialekbaaGreatDoorRefCame5
namespace Go.Proofs.YteahdfeialekbaaGreatDoor
open Go Go.RowKit
end Go.Proofs.YteahdfeialekbaaGreatDoor
