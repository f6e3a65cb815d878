/-
  gleanref's Run.Pass, the document's own answer.
-/
import Derived.Test.YteahdfeialekbaaGreatDoorRefRing
import Derived.StillTailTactics
namespace Go.Proofs.YteahdfeialekbaaGreatDoor
open Go Go.RowKit
end Go.Proofs.YteahdfeialekbaaGreatDoor
