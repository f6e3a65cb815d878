import Derived.Test.YtfanaanofjhlkaaGreatDoorRefCame3
namespace Go.Proofs.YtfanaanofjhlkaaGreatDoor
open Go Go.RowKit
end Go.Proofs.YtfanaanofjhlkaaGreatDoor
