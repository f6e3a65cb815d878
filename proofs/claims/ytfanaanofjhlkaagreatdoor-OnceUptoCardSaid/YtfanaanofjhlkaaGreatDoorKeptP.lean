import Derived.Test.YtfanaanofjhlkaaGreatDoorBooks
namespace Go.Proofs.YtfanaanofjhlkaaGreatDoor
open Go Go.RowKit
end Go.Proofs.YtfanaanofjhlkaaGreatDoor
