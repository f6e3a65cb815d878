import Derived.Test.YtfanaanofjhlkaaGreatDoorRefSteal
import Derived.Test.YtfanaanofjhlkaaGreatDoorStoreM
namespace Go.Proofs.YtfanaanofjhlkaaGreatDoor
open Go Go.RowKit
def messageE(s:RunS)(i:Int):Int:=if startE s=0/\(i < 0\/(s.way.length:Int)<=i)then 10 else startE s
def dropS(s:RunS)(i:Int):RunS×Int:=if messageE s i≠0 then(s,messageE s i)else({s with way:=s.way.take i.toNat++s.way.drop (i.toNat+1)},0)
def twiceS(s:RunS)(i:Int):RunS×Int:=if messageE s i≠0 then(s,messageE s i)else(wayS s (s.way[i.toNat]?.getD msg0),0)
theorem messageE_in{s:RunS}{i:Int}(h:messageE s i=0):0<=i/\i < (s.way.length:Int):=by
 unfold messageE at h
 split at h
 ·omega
 ·rename_i h'
  rw[h]at h'
  omega
end Go.Proofs.YtfanaanofjhlkaaGreatDoor
