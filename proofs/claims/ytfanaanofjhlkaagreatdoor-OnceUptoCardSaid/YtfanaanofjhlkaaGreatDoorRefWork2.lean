import Derived.Test.YtfanaanofjhlkaaGreatDoorRefWork
namespace Go.Proofs.YtfanaanofjhlkaaGreatDoor
open Go Go.RowKit
end Go.Proofs.YtfanaanofjhlkaaGreatDoor
