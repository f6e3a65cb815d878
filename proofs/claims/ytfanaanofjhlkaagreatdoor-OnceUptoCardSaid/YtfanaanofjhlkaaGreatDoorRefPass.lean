import Derived.Test.YtfanaanofjhlkaaGreatDoorRefRing
import Derived.StillTailTactics
namespace Go.Proofs.YtfanaanofjhlkaaGreatDoor
open Go Go.RowKit
def passS(s:RunS)(i:Int):RunS×Int:=
 if workerE s i≠0 then(s,workerE s i)else
  match s.W[i.toNat]? with
  |none=>(s,9)
  |some x=>
   if s.mode≠1\/i=0\/x.has=false\/x.tasks≠ []then(s,9)else
    let s1:=sendS s {msg0 with src:=i,dst:=i - 1,kind:=5,count:=x.token.count+x.sent - x.came,black:=x.token.black||x.black}
    ({s1 with W:=s1.W.set i.toNat {x with black:=false,has:=false}},0)
theorem sendS_W(s:RunS)(m:MsgS)(h:¬(m.kind=2\/m.kind=4)):(sendS s m).W=s.W:=by
 unfold sendS wayS
 simp only[if_neg h]
 split<;>rfl
end Go.Proofs.YtfanaanofjhlkaaGreatDoor
