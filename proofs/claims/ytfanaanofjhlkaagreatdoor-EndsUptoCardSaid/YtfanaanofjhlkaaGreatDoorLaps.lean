import Derived.Test.YtfanaanofjhlkaaGreatDoorTotal2
import Derived.Test.YtfanaanofjhlkaaGreatDoorBooks
namespace Go.Proofs.YtfanaanofjhlkaaGreatDoor
open Go Go.RowKit
def treeSum(ks:List KindS)(o:ByteArray->Nat)(t:TaskS):Nat:=((tree ks 12 t).map fun u=>o u.id).sum
theorem flat_sum(o:TaskS->Nat)(f:TaskS->List TaskS):∀l:List TaskS,((l.flatMap f).map o).sum=(l.map fun t=>((f t).map o).sum).sum
 |[]=>rfl
 |a :: r=>by
  rw[List.flatMap_cons,List.map_append,List.sum_append,List.map_cons,List.sum_cons,flat_sum o f r]
theorem tree_counts{ks:List KindS}{kind arg:Int}(hp:progB ks kind arg=true)(o:ByteArray->Nat):Tree ks (treeSum ks o) o:=by
 refine⟨fun t hG=> ?_⟩
 have e:tree ks 12 t=t :: (children ks t).flatMap (tree ks 11):=rfl
 unfold treeSum
 rw[e,List.map_cons,List.sum_cons,flat_sum]
 congr 2
 refine List.map_congr_left (fun c hc=> ?_)
 obtain⟨h1,h2⟩:=good_child hp hG hc
 obtain⟨g1,g2,g3,g4⟩:=hG
 rw[tree_more hp 11 c h1 (by show c.arg<=((11:Nat):Int);omega)]
theorem tree_closed{ks:List KindS}{kind arg:Int}(hp:progB ks kind arg=true):∀(f:Nat) (r:TaskS),Good ks r->r.arg<=f->∀t∈tree ks f r,∀c∈children ks t,c∈tree ks f r:=by
 intro f
 induction f with
 |zero=>
  intro r hG ha t ht c hc
  rw[List.mem_singleton.1 ht]at hc
  have:=good_child hp hG hc
  have h0:=this.1.2.2.1
  omega
 |succ f ih=>
  intro r hG ha t ht c hc
  have e:tree ks (f+1) r=r :: (children ks r).flatMap (tree ks f):=rfl
  rw[e]at ht ⊢
  refine List.mem_cons_of_mem _ ?_
  rcases List.mem_cons.1 ht with rfl|ht
  ·refine List.mem_flatMap.2 ⟨c,hc,?_⟩
   cases f with
   |zero=>exact List.mem_singleton.2 rfl
   |succ f=>exact List.mem_cons_self ..
  ·obtain⟨d,hd,htd⟩:=List.mem_flatMap.1 ht
   obtain⟨h1,h2⟩:=good_child hp hG hd
   exact List.mem_flatMap.2 ⟨d,hd,ih d h1 (by omega) t htd c hc⟩
structure Stays(s s':RunS):Prop where
 ks:s'.ks=s.ks
 kind:s'.kind=s.kind
 arg:s'.arg=s.arg
 workers:s'.workers=s.workers
 room:s'.room=s.room
 mode:s'.mode=s.mode
 vals:ByIds s.values->ByIds s'.values
theorem Stays.refl(s:RunS):Stays s s:=⟨rfl,rfl,rfl,rfl,rfl,rfl,id⟩
theorem Stays.trans{a b c:RunS}(h:Stays a b)(k:Stays b c):Stays a c:=
 ⟨k.ks.trans h.ks,k.kind.trans h.kind,k.arg.trans h.arg,k.workers.trans h.workers,k.room.trans h.room,k.mode.trans h.mode,fun e=>k.vals (h.vals e)⟩
theorem Stays.after{a b c:RunS}(k:Stays b c)(h:Stays a b):Stays a c:=h.trans k
theorem Stays.way(s:RunS)(m:MsgS):Stays s (wayS s m):=by
 unfold wayS
 split
 ·exact⟨rfl,rfl,rfl,rfl,rfl,rfl,id⟩
 ·exact .refl s
theorem Stays.send(s:RunS)(m:MsgS):Stays s (sendS s m):=by
 unfold sendS
 dsimp only
 refine Stays.trans ?_ (Stays.way _ _)
 split<;>exact⟨rfl,rfl,rfl,rfl,rfl,rfl,id⟩
theorem Stays.came(s:RunS)(m:MsgS):Stays s (cameS s m):=by
 unfold cameS notedS
 dsimp only
 repeat' split
 all_goals first|exact⟨rfl,rfl,rfl,rfl,rfl,rfl,id⟩|exact⟨rfl,rfl,rfl,rfl,rfl,rfl,fun h=>putS_byIds _ _ h⟩|exact Stays.after (Stays.send _ _) ⟨rfl,rfl,rfl,rfl,rfl,rfl,id⟩
theorem Stays.come(i j:Nat):∀(f:Nat) (s:RunS),Stays s (comeS f s i j):=by
 intro f
 induction f with
 |zero=>exact fun s=> .refl s
 |succ f ih=>
  intro s
  unfold comeS
  split
  ·refine Stays.trans ?_ (ih _)
   exact Stays.after (Stays.came _ _) ⟨rfl,rfl,rfl,rfl,rfl,rfl,id⟩
  ·exact .refl s
theorem Stays.work(s:RunS)(i:Int):Stays s (workS s i).1:=by
 unfold workS
 dsimp only
 repeat' split
 all_goals first|exact .refl s|exact⟨rfl,rfl,rfl,rfl,rfl,rfl,id⟩|exact⟨rfl,rfl,rfl,rfl,rfl,rfl,fun h=>putS_byIds _ _ h⟩|exact Stays.after (Stays.send _ _) ⟨rfl,rfl,rfl,rfl,rfl,rfl,id⟩
theorem Stays.steal(s:RunS)(i v:Int):Stays s (stealS s i v).1:=by
 unfold stealS
 dsimp only
 repeat' split
 all_goals first|exact .refl s|exact Stays.after (Stays.send _ _) ⟨rfl,rfl,rfl,rfl,rfl,rfl,id⟩
theorem Stays.drop(s:RunS)(k:Int):Stays s (dropS s k).1:=by
 unfold dropS
 split
 ·exact .refl s
 ·exact⟨rfl,rfl,rfl,rfl,rfl,rfl,id⟩
theorem Stays.twice(s:RunS)(k:Int):Stays s (twiceS s k).1:=by
 unfold twiceS
 split
 ·exact .refl s
 ·exact Stays.way _ _
theorem Stays.again:∀(L:List LinkS) (s:RunS),Stays s (L.foldl againS s):=by
 intro L
 induction L with
 |nil=>exact fun s=> .refl s
 |cons l L ih=>
  intro s
  rw[List.foldl_cons]
  refine Stays.trans ?_ (ih _)
  unfold againS
  split
  ·exact Stays.way _ _
  ·exact .refl s
theorem Stays.tick(s:RunS)(i:Int):Stays s (tickS s i).1:=by
 unfold tickS
 split
 ·exact .refl s
 ·exact Stays.again _ _
theorem Stays.deliver(s:RunS)(k:Int):Stays s (deliverS s k).1:=by
 unfold deliverS
 split
 ·exact .refl s
 ·dsimp only
  split
  ·split<;>exact⟨rfl,rfl,rfl,rfl,rfl,rfl,id⟩
  ·refine Stays.trans ?_ (Stays.way _ _)
   exact Stays.after (Stays.come _ _ _ _) ⟨rfl,rfl,rfl,rfl,rfl,rfl,id⟩
theorem Stays.pass(s:RunS)(i:Int):Stays s (passS s i).1:=by
 unfold passS
 dsimp only
 repeat' split
 all_goals first|exact .refl s|exact Stays.trans (Stays.send s _) ⟨rfl,rfl,rfl,rfl,rfl,rfl,id⟩|exact Stays.after (Stays.send _ _) ⟨rfl,rfl,rfl,rfl,rfl,rfl,id⟩
theorem Stays.waves{r:Int}:∀(L:List Nat) (s:RunS),Stays s (L.foldl (waveS r) s):=by
 intro L
 induction L with
 |nil=>exact fun s=> .refl s
 |cons k L ih=>
  intro s
  rw[List.foldl_cons]
  exact Stays.trans (Stays.send s _) (ih _)
theorem Stays.check(s:RunS):Stays s (checkS s).1:=by
 unfold checkS ringS wavesS
 dsimp only
 repeat' split
 all_goals first|exact .refl s|exact⟨rfl,rfl,rfl,rfl,rfl,rfl,id⟩|exact Stays.after (Stays.send _ _) ⟨rfl,rfl,rfl,rfl,rfl,rfl,id⟩|(refine Stays.trans ?_ (Stays.waves _ _);unfold notedS;dsimp only;split<;>exact⟨rfl,rfl,rfl,rfl,rfl,rfl,id⟩)
theorem sum_zero{α:Type}:∀l:List α,(l.map (fun _=>(0:Nat))).sum=0
 |[]=>rfl
 |a :: l=>by rw[List.map_cons,List.sum_cons,sum_zero l]
def isId(x:ByteArray)(y:ByteArray):Nat:=if y=x then 1 else 0
theorem count_sum{α:Type} [DecidableEq α](x:α):∀l:List α,(l.map fun y=>if y=x then 1 else 0).sum=l.count x
 |[]=>rfl
 |y :: l=>by
  rw[List.map_cons,List.sum_cons,count_sum x l,List.count_cons]
  by_cases h:y=x<;>simp[h]<;>omega
theorem nodup_of{α:Type} [DecidableEq α]{l:List α}(h:∀x,(l.map fun y=>if y=x then 1 else 0).sum<=1):l.Nodup:=List.nodup_iff_count.2 (fun{x}=>by rw[<-count_sum];exact h x)
theorem perm_of{α:Type} [DecidableEq α]{l m:List α}(h:∀x,(l.map fun y=>if y=x then 1 else 0).sum=(m.map fun y=>if y=x then 1 else 0).sum):l.Perm m:=List.perm_iff_count.2 (fun x=>by rw[<-count_sum,<-count_sum];exact h x)
theorem tree_once{ks:List KindS}{kind arg:Int}(hp:progB ks kind arg=true)(x:ByteArray):treeSum ks (isId x) ⟨⟨#[]⟩,kind,arg⟩<=1:=by
 have ho:=all_order hp
 unfold treeSum
 show((allTasks ks kind arg).map fun u=>isId x u.id).sum<=1
 generalize allTasks ks kind arg=l at ho
 induction l with
 |nil=>simp
 |cons a l ih=>
  obtain⟨h1,h2⟩:=List.pairwise_cons.1 ho
  rw[List.map_cons,List.sum_cons]
  have:=ih h2
  by_cases e:a.id=x
  ·have z:(l.map fun u=>isId x u.id).sum=0:=by
    have:l.map (fun u=>isId x u.id)=l.map (fun _=>0):=List.map_congr_left (fun u hu=>by
     have:=h1 u hu
     unfold isId
     rw[if_neg]
     intro e2
     unfold idl at this
     rw[e,e2]at this
     exact List.lt_irrefl _ this)
    rw[this,sum_zero]
   rw[z]
   unfold isId
   split<;>omega
  ·unfold isId at this ⊢
   rw[if_neg e]
   omega
section
variable {e:Nat} {s:RunS}
end
end Go.Proofs.YtfanaanofjhlkaaGreatDoor
