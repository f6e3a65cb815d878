import Derived.Test.YtfanaanofjhlkaaGreatDoorXSteal2
import Derived.Test.YtfanaanofjhlkaaGreatDoorRaw
import Derived.Test.YtfanaanofjhlkaaGreatDoorStillB
import Derived.Test.YtfanaanofjhlkaaGreatDoorCalm
import Derived.Test.YtfanaanofjhlkaaGreatDoorLaps
namespace Go.Proofs.YtfanaanofjhlkaaGreatDoor
open Go Go.RowKit
section
variable {s:RunS} {k k':Nat}
end
end Go.Proofs.YtfanaanofjhlkaaGreatDoor
