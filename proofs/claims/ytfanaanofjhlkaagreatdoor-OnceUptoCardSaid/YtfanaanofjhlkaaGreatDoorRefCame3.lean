import Derived.Test.YtfanaanofjhlkaaGreatDoorRefWork3
namespace Go.Proofs.YtfanaanofjhlkaaGreatDoor
open Go Go.RowKit
def notedS(s:RunS)(sent came:Int)(idle:Bool):RunS:=
 match s.answers.getLast? with
 |none=>s
 |some a=>{s with answers:=s.answers.dropLast++ [⟨a.many+1,a.sent+sent,a.came+came,a.idle&&idle⟩]}
def cameS(s:RunS)(m:MsgS):RunS:=
 let i:=m.dst.toNat
 let x:=s.W[i]?.getD worker0
 if m.kind=1 then
  match x.tasks with
  |[]=>sendS s {msg0 with src:=m.dst,dst:=m.src,kind:=3}
  |t :: r=>sendS {s with W:=s.W.set i {x with tasks:=r}} {msg0 with src:=m.dst,dst:=m.src,kind:=2,t:=t}
 else if m.kind=2 then{s with W:=s.W.set i {x with came:=x.came+1,black:=true,asked:=false,tasks:=x.tasks++ [m.t]}}
 else if m.kind=3 then{s with W:=s.W.set i {x with asked:=false}}
 else if m.kind=4 then{s with W:=s.W.set i {x with came:=x.came+1,black:=true},values:=putS s.values m.v}
 else if m.kind=5 then{s with W:=s.W.set i {x with has:=true,token:=m},around:=s.around||m.dst==0}
 else if m.kind=6 then sendS s {msg0 with src:=m.dst,dst:=0,kind:=7,round:=m.round,sent:=x.sent,came:=x.came,idle:=x.tasks.isEmpty}
 else if m.kind=7 then notedS s m.sent m.came m.idle
 else s
end Go.Proofs.YtfanaanofjhlkaaGreatDoor
