import Derived.Test.YtfanaanofjhlkaaGreatDoorList
namespace Go.Proofs.YtfanaanofjhlkaaGreatDoor
open Go Go.RowKit
end Go.Proofs.YtfanaanofjhlkaaGreatDoor
