import Derived.Test.YtfanaanofjhlkaaGreatDoorRefPass
import Derived.Test.YtfanaanofjhlkaaGreatDoorXYoung
namespace Go.Proofs.YtfanaanofjhlkaaGreatDoor
open Go Go.RowKit
def alikeB(a b:AnsS):Bool:=a.sent==a.came&&b.sent==b.came&&a.sent==b.sent&&b.idle
def openB(s:RunS):Bool:=match s.answers.getLast? with
 |none=>false
 |some a=>decide (a.many < s.workers)
def twiceB(s:RunS):Bool:=match s.answers.reverse with
 |b :: a :: _=>alikeB a b
 |_=>false
def waveS(n:Int)(s:RunS)(k:Nat):RunS:=sendS s {msg0 with src:=0,dst:=k,kind:=6,round:=n}
def wavesS(s:RunS):RunS×Int:=
 match s.W[0]? with
 |none=>(s,9)
 |some x=>
  if x.tasks≠ []\/openB s=true then(s,9)
  else if twiceB s=true then({s with done:=true},0)
  else((List.range' 1 (s.W.length - 1)).foldl (waveS (s.answers.length+1)) (notedS {s with answers:=s.answers++ [⟨0,0,0,true⟩]} x.sent x.came true),0)
def checkS(s:RunS):RunS×Int:=if startE s≠0 then(s,startE s)else if s.mode=1 then ringS s else wavesS s
theorem waves_fold{N:Nat}{s:RunS}(n:Int)(h:Shaped s)(hN:Small N s):∀(l:List Nat),Shaped (l.foldl (waveS n) s)/\Small (N+l.length) (l.foldl (waveS n) s)/\(l.foldl (waveS n) s).workers=s.workers:=by
 intro l
 induction l generalizing N s with
 |nil=>exact⟨h,hN,rfl⟩
 |cons k r ih=>
  rw[List.foldl_cons]
  obtain⟨lk,ww,y,he,-⟩:=sendS_eq s {msg0 with src:=0,dst:=(k:Int),kind:=6,round:=n}
  obtain⟨h1,h2,h3⟩:=ih (N:=N+1) (s:=waveS n s k) (h.send _) (hN.send _)
  refine⟨h1,?_,h3.trans ?_⟩
  ·rw[List.length_cons,show N+(r.length+1)=N+1+r.length by omega];exact h2
  ·unfold waveS;rw[he]
end Go.Proofs.YtfanaanofjhlkaaGreatDoor
