import Derived.Test.YtfanaanofjhlkaaGreatDoorRefMessages
namespace Go.Proofs.YtfanaanofjhlkaaGreatDoor
open Go Go.RowKit
def againS(s:RunS)(l:LinkS):RunS:=if l.known < (l.all.length:Int)then wayS s (l.all[l.known.toNat]?.getD msg0)else s
def tickS(s:RunS)(i:Int):RunS×Int:=if workerE s i≠0 then(s,workerE s i)else((s.links[i.toNat]?.getD []).foldl againS s,0)
theorem wayS_eq(s:RunS)(m:MsgS):∃y,wayS s m={s with way:=y}/\(s.way.length<=60->y.length<=60):=by
 unfold wayS
 split
 ·exact⟨_,rfl,fun _=>by simp;omega⟩
 ·exact⟨s.way,rfl,fun h=>h⟩
theorem againS_eq(s:RunS)(l:LinkS):∃y,againS s l={s with way:=y}/\(s.way.length<=60->y.length<=60):=by
 unfold againS
 split
 ·exact wayS_eq s _
 ·exact⟨s.way,rfl,fun h=>h⟩
theorem again_fold:∀(ls:List LinkS) (s:RunS),∃y,ls.foldl againS s={s with way:=y}/\(s.way.length<=60->y.length<=60)
 |[],s=>⟨s.way,rfl,fun h=>h⟩
 |l :: r,s=>by
  obtain⟨y,h1,h2⟩:=againS_eq s l
  obtain⟨y',h3,h4⟩:=again_fold r {s with way:=y}
  rw[List.foldl_cons,h1]
  exact⟨y',h3,fun h=>h4 (h2 h)⟩
end Go.Proofs.YtfanaanofjhlkaaGreatDoor
