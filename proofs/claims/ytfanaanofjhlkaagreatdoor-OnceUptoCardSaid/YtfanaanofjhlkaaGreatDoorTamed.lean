import Derived.Test.YtfanaanofjhlkaaGreatDoorTwins
import Derived.Test.YtfanaanofjhlkaaGreatDoorStoreM
namespace Go.Proofs.YtfanaanofjhlkaaGreatDoor
open Go Go.RowKit
def isI64(n:Int):Prop:=-9223372036854775808<=n/\n<=9223372036854775807
end Go.Proofs.YtfanaanofjhlkaaGreatDoor
