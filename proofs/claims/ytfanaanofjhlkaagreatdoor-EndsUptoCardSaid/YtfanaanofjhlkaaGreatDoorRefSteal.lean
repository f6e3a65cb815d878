import Derived.Test.YtfanaanofjhlkaaGreatDoorRefWork2
import Derived.Test.YtfanaanofjhlkaaGreatDoorRaw
namespace Go.Proofs.YtfanaanofjhlkaaGreatDoor
open Go Go.RowKit
structure Shaped(s:RunS):Prop where
 len:(s.W.length:Int)=s.workers
 two:2<=s.workers
 five:s.workers<=5
 llen:s.links.length=s.W.length
 lrow:∀ls∈s.links,ls.length=s.W.length
 way:s.way.length<=60
structure Small(N:Nat)(s:RunS):Prop where
 all:∀ls∈s.links,∀l∈ls,l.all.length<=N
 known:∀ls∈s.links,∀l∈ls,0<=l.known
 came:∀ls∈s.links,∀l∈ls,0<=l.came/\l.came<=(N:Int)
 kept:∀ls∈s.links,∀l∈ls,l.kept.length<=N
 sent:∀x∈s.W,0<=x.sent/\x.sent<=(N:Int)
 got:∀x∈s.W,0<=x.came/\x.came<=(N:Int)
theorem Shaped.link{s:RunS}(h:Shaped s){i j:Nat}(hi:i < s.W.length)(hj:j < s.W.length):∃ls l,s.links[i]?= some ls/\ls[j]?= some l:=by
 have h1:=h.llen
 have h2:s.links[i]?= some s.links[i]:=List.getElem?_eq_getElem (by omega)
 have h3:=h.lrow _ (List.mem_of_getElem? h2)
 exact⟨_,_,h2,List.getElem?_eq_getElem (by omega)⟩
def stealS(s:RunS)(i v:Int):RunS×Int:=
 if workerE s i≠0 then(s,workerE s i)else if workerE s v≠0 then(s,workerE s v)else if i=v then(s,7)else
  match s.W[i.toNat]? with
  |none=>(s,9)
  |some x=>if x.tasks≠ []\/x.asked=true then(s,9)else(sendS {s with W:=s.W.set i.toNat {x with asked:=true}} {msg0 with src:=i,dst:=v,kind:=1},0)
end Go.Proofs.YtfanaanofjhlkaaGreatDoor
