import Derived.Test.YtfanaanofjhlkaaGreatDoorStoreM
import Derived.Test.YtfanaanofjhlkaaGreatDoorRefCame4
namespace Go.Proofs.YtfanaanofjhlkaaGreatDoor
open Go Go.RowKit
def announcedS(s:RunS):List (ByteArray×Int):=if s.done then s.values else []
def roundB(s:RunS)(x:WorkerS):Bool:=s.around&& !x.token.black&& !x.black&&(x.token.count+x.sent - x.came==0)
def ringS(s:RunS):RunS×Int:=
 match s.W[0]? with
 |none=>(s,9)
 |some x=>
  if x.has=false\/x.tasks≠ []then(s,9)
  else if roundB s x=true then({s with done:=true},0)
  else(sendS {s with W:=s.W.set 0 {x with black:=false,has:=false}} {msg0 with src:=0,dst:=s.workers - 1,kind:=5},0)
end Go.Proofs.YtfanaanofjhlkaaGreatDoor
