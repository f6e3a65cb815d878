import Derived.Test.YtfanaanofjhlkaaGreatDoorPolite
import Derived.Test.YtfanaanofjhlkaaGreatDoorBooks
import Derived.Test.YtfanaanofjhlkaaGreatDoorXSteal2
import Derived.Test.YtfanaanofjhlkaaGreatDoorRaw
import Derived.Test.YtfanaanofjhlkaaGreatDoorStillB
namespace Go.Proofs.YtfanaanofjhlkaaGreatDoor
open Go Go.RowKit
theorem again_links:∀(L:List LinkS) (s:RunS),(L.foldl againS s).links=s.links/\(L.foldl againS s).done=s.done:=by
 intro L
 induction L with
 |nil=>exact fun s=>⟨rfl,rfl⟩
 |cons l L ih=>
  intro s
  obtain⟨y,hy,-⟩:=againS_eq s l
  rw[List.foldl_cons,hy]
  exact ih _
theorem sendS_done(s:RunS)(m:MsgS):(sendS s m).done=s.done:=by
 unfold sendS wayS
 dsimp only
 split<;>split<;>rfl
theorem wayS_done(s:RunS)(m:MsgS):(wayS s m).done=s.done:=by
 unfold wayS
 split<;>rfl
theorem cameS_done(s:RunS)(m:MsgS):(cameS s m).done=s.done:=by
 unfold cameS notedS
 dsimp only
 repeat' split
 all_goals first|rfl|exact sendS_done _ _
theorem comeS_done(i j:Nat):∀(f:Nat) (s:RunS),(comeS f s i j).done=s.done:=by
 intro f
 induction f with
 |zero=>exact fun s=>rfl
 |succ f ih=>
  intro s
  unfold comeS
  split
  ·rw[ih];exact cameS_done _ _
  ·rfl
theorem workS_done(s:RunS)(i:Int):(workS s i).1.done=s.done:=by
 unfold workS
 dsimp only
 repeat' split
 all_goals first|rfl|exact sendS_done _ _
theorem stealS_done(s:RunS)(i v:Int):(stealS s i v).1.done=s.done:=by
 unfold stealS
 repeat' split
 all_goals first|rfl|exact sendS_done _ _
theorem tickS_done(s:RunS)(i:Int):(tickS s i).1.done=s.done:=by
 unfold tickS
 split
 ·rfl
 ·exact(again_links _ _).2
theorem deliverS_done(s:RunS)(k:Int):(deliverS s k).1.done=s.done:=by
 unfold deliverS
 split
 ·rfl
 ·dsimp only
  split
  ·split<;>rfl
  ·rw[wayS_done,comeS_done];rfl
theorem passS_done(s:RunS)(i:Int):(passS s i).1.done=s.done:=by
 unfold passS
 split
 ·rfl
 ·split
  ·rfl
  ·split
   ·rfl
   ·exact sendS_done _ _
def treeSum(ks:List KindS)(o:ByteArray->Nat)(t:TaskS):Nat:=((tree ks 12 t).map fun u=>o u.id).sum
theorem flat_sum(o:TaskS->Nat)(f:TaskS->List TaskS):∀l:List TaskS,((l.flatMap f).map o).sum=(l.map fun t=>((f t).map o).sum).sum
 |[]=>rfl
 |a :: r=>by
  rw[List.flatMap_cons,List.map_append,List.sum_append,List.map_cons,List.sum_cons,flat_sum o f r]
theorem tree_counts{ks:List KindS}{kind arg:Int}(hp:progB ks kind arg=true)(o:ByteArray->Nat):Tree ks (treeSum ks o) o:=by
 refine⟨fun t hG=> ?_⟩
 have e:tree ks 12 t=t :: (children ks t).flatMap (tree ks 11):=rfl
 unfold treeSum
 rw[e,List.map_cons,List.sum_cons,flat_sum]
 congr 2
 refine List.map_congr_left (fun c hc=> ?_)
 obtain⟨h1,h2⟩:=good_child hp hG hc
 obtain⟨g1,g2,g3,g4⟩:=hG
 rw[tree_more hp 11 c h1 (by show c.arg<=((11:Nat):Int);omega)]
theorem tree_closed{ks:List KindS}{kind arg:Int}(hp:progB ks kind arg=true):∀(f:Nat) (r:TaskS),Good ks r->r.arg<=f->∀t∈tree ks f r,∀c∈children ks t,c∈tree ks f r:=by
 intro f
 induction f with
 |zero=>
  intro r hG ha t ht c hc
  rw[List.mem_singleton.1 ht]at hc
  have:=good_child hp hG hc
  have h0:=this.1.2.2.1
  omega
 |succ f ih=>
  intro r hG ha t ht c hc
  have e:tree ks (f+1) r=r :: (children ks r).flatMap (tree ks f):=rfl
  rw[e]at ht ⊢
  refine List.mem_cons_of_mem _ ?_
  rcases List.mem_cons.1 ht with rfl|ht
  ·refine List.mem_flatMap.2 ⟨c,hc,?_⟩
   cases f with
   |zero=>exact List.mem_singleton.2 rfl
   |succ f=>exact List.mem_cons_self ..
  ·obtain⟨d,hd,htd⟩:=List.mem_flatMap.1 ht
   obtain⟨h1,h2⟩:=good_child hp hG hd
   exact List.mem_flatMap.2 ⟨d,hd,ih d h1 (by omega) t htd c hc⟩
structure Stays(s s':RunS):Prop where
 ks:s'.ks=s.ks
 kind:s'.kind=s.kind
 arg:s'.arg=s.arg
 workers:s'.workers=s.workers
 room:s'.room=s.room
 mode:s'.mode=s.mode
 vals:ByIds s.values->ByIds s'.values
theorem Stays.refl(s:RunS):Stays s s:=⟨rfl,rfl,rfl,rfl,rfl,rfl,id⟩
theorem Stays.trans{a b c:RunS}(h:Stays a b)(k:Stays b c):Stays a c:=
 ⟨k.ks.trans h.ks,k.kind.trans h.kind,k.arg.trans h.arg,k.workers.trans h.workers,k.room.trans h.room,k.mode.trans h.mode,fun e=>k.vals (h.vals e)⟩
theorem Stays.after{a b c:RunS}(k:Stays b c)(h:Stays a b):Stays a c:=h.trans k
theorem Stays.way(s:RunS)(m:MsgS):Stays s (wayS s m):=by
 unfold wayS
 split
 ·exact⟨rfl,rfl,rfl,rfl,rfl,rfl,id⟩
 ·exact .refl s
theorem Stays.send(s:RunS)(m:MsgS):Stays s (sendS s m):=by
 unfold sendS
 dsimp only
 refine Stays.trans ?_ (Stays.way _ _)
 split<;>exact⟨rfl,rfl,rfl,rfl,rfl,rfl,id⟩
theorem Stays.came(s:RunS)(m:MsgS):Stays s (cameS s m):=by
 unfold cameS notedS
 dsimp only
 repeat' split
 all_goals first|exact⟨rfl,rfl,rfl,rfl,rfl,rfl,id⟩|exact⟨rfl,rfl,rfl,rfl,rfl,rfl,fun h=>putS_byIds _ _ h⟩|exact Stays.after (Stays.send _ _) ⟨rfl,rfl,rfl,rfl,rfl,rfl,id⟩
theorem Stays.come(i j:Nat):∀(f:Nat) (s:RunS),Stays s (comeS f s i j):=by
 intro f
 induction f with
 |zero=>exact fun s=> .refl s
 |succ f ih=>
  intro s
  unfold comeS
  split
  ·refine Stays.trans ?_ (ih _)
   exact Stays.after (Stays.came _ _) ⟨rfl,rfl,rfl,rfl,rfl,rfl,id⟩
  ·exact .refl s
theorem Stays.work(s:RunS)(i:Int):Stays s (workS s i).1:=by
 unfold workS
 dsimp only
 repeat' split
 all_goals first|exact .refl s|exact⟨rfl,rfl,rfl,rfl,rfl,rfl,id⟩|exact⟨rfl,rfl,rfl,rfl,rfl,rfl,fun h=>putS_byIds _ _ h⟩|exact Stays.after (Stays.send _ _) ⟨rfl,rfl,rfl,rfl,rfl,rfl,id⟩
theorem Stays.steal(s:RunS)(i v:Int):Stays s (stealS s i v).1:=by
 unfold stealS
 dsimp only
 repeat' split
 all_goals first|exact .refl s|exact Stays.after (Stays.send _ _) ⟨rfl,rfl,rfl,rfl,rfl,rfl,id⟩
theorem Stays.drop(s:RunS)(k:Int):Stays s (dropS s k).1:=by
 unfold dropS
 split
 ·exact .refl s
 ·exact⟨rfl,rfl,rfl,rfl,rfl,rfl,id⟩
theorem Stays.twice(s:RunS)(k:Int):Stays s (twiceS s k).1:=by
 unfold twiceS
 split
 ·exact .refl s
 ·exact Stays.way _ _
theorem Stays.again:∀(L:List LinkS) (s:RunS),Stays s (L.foldl againS s):=by
 intro L
 induction L with
 |nil=>exact fun s=> .refl s
 |cons l L ih=>
  intro s
  rw[List.foldl_cons]
  refine Stays.trans ?_ (ih _)
  unfold againS
  split
  ·exact Stays.way _ _
  ·exact .refl s
theorem Stays.tick(s:RunS)(i:Int):Stays s (tickS s i).1:=by
 unfold tickS
 split
 ·exact .refl s
 ·exact Stays.again _ _
theorem Stays.deliver(s:RunS)(k:Int):Stays s (deliverS s k).1:=by
 unfold deliverS
 split
 ·exact .refl s
 ·dsimp only
  split
  ·split<;>exact⟨rfl,rfl,rfl,rfl,rfl,rfl,id⟩
  ·refine Stays.trans ?_ (Stays.way _ _)
   exact Stays.after (Stays.come _ _ _ _) ⟨rfl,rfl,rfl,rfl,rfl,rfl,id⟩
theorem Stays.pass(s:RunS)(i:Int):Stays s (passS s i).1:=by
 unfold passS
 dsimp only
 repeat' split
 all_goals first|exact .refl s|exact Stays.trans (Stays.send s _) ⟨rfl,rfl,rfl,rfl,rfl,rfl,id⟩|exact Stays.after (Stays.send _ _) ⟨rfl,rfl,rfl,rfl,rfl,rfl,id⟩
theorem Stays.waves{r:Int}:∀(L:List Nat) (s:RunS),Stays s (L.foldl (waveS r) s):=by
 intro L
 induction L with
 |nil=>exact fun s=> .refl s
 |cons k L ih=>
  intro s
  rw[List.foldl_cons]
  exact Stays.trans (Stays.send s _) (ih _)
theorem Stays.check(s:RunS):Stays s (checkS s).1:=by
 unfold checkS ringS wavesS
 dsimp only
 repeat' split
 all_goals first|exact .refl s|exact⟨rfl,rfl,rfl,rfl,rfl,rfl,id⟩|exact Stays.after (Stays.send _ _) ⟨rfl,rfl,rfl,rfl,rfl,rfl,id⟩|(refine Stays.trans ?_ (Stays.waves _ _);unfold notedS;dsimp only;split<;>exact⟨rfl,rfl,rfl,rfl,rfl,rfl,id⟩)
theorem sum_zero{α:Type}:∀l:List α,(l.map (fun _=>(0:Nat))).sum=0
 |[]=>rfl
 |a :: l=>by rw[List.map_cons,List.sum_cons,sum_zero l]
def isId(x:ByteArray)(y:ByteArray):Nat:=if y=x then 1 else 0
theorem count_sum{α:Type} [DecidableEq α](x:α):∀l:List α,(l.map fun y=>if y=x then 1 else 0).sum=l.count x
 |[]=>rfl
 |y :: l=>by
  rw[List.map_cons,List.sum_cons,count_sum x l,List.count_cons]
  by_cases h:y=x<;>simp[h]<;>omega
theorem perm_of{α:Type} [DecidableEq α]{l m:List α}(h:∀x,(l.map fun y=>if y=x then 1 else 0).sum=(m.map fun y=>if y=x then 1 else 0).sum):l.Perm m:=List.perm_iff_count.2 (fun x=>by rw[<-count_sum,<-count_sum];exact h x)
structure CalmM(d:Int)(m:MsgS):Prop where
 kind:m.kind<=7
 size:m.v.1.size<=12
 wf:(Lit.int .i64 m.v.2).wf=true
 ne:m.src≠m.dst
 tok:m.kind=5->d=1
 wave:m.kind=6->m.src=0
theorem calm_of{d:Int}{m:MsgS}(h:m.kind<=7)(hv:m.v=(⟨#[]⟩,0))(hn:m.src≠m.dst)(h5:m.kind=5->d=1)(h6:m.kind=6->m.src=0):CalmM d m:=⟨h,by rw[hv];decide,by rw[hv];decide,hn,h5,h6⟩
theorem CalmM.no{d:Int}{m:MsgS}(h:CalmM d m)(n:Int):CalmM d {m with no:=n}:=⟨h.kind,h.size,h.wf,h.ne,h.tok,h.wave⟩
def CalmL(d:Int)(L:List (List LinkS)):Prop:=∀ls∈L,∀l∈ls,∀m∈l.all,CalmM d m
structure Calm(s:RunS):Prop where
 links:CalmL s.mode s.links
 way:∀m∈s.way,m.src≠m.dst
theorem CalmL.link{d:Int}{L:List (List LinkS)}(h:CalmL d L)(a b:Nat):∀m∈((L[a]?.getD [])[b]?.getD link0).all,CalmM d m:=by
 cases ha:L[a]? with
 |none=>intro m hm;simp[link0]at hm
 |some ls=>
  cases hb:ls[b]? with
  |none=>intro m hm;simp[hb,link0]at hm
  |some l=>intro m hm;simp[hb]at hm;exact h ls (List.mem_of_getElem? ha) l (List.mem_of_getElem? hb) m hm
theorem CalmL.set{d:Int}{L:List (List LinkS)}(h:CalmL d L)(a b:Nat){l':LinkS}(hl:∀m∈l'.all,CalmM d m):CalmL d (L.set a ((L[a]?.getD []).set b l')):=by
 intro ls hls l hlm
 rcases List.mem_or_eq_of_mem_set hls with h'|rfl
 ·exact h ls h' l hlm
 ·rcases List.mem_or_eq_of_mem_set hlm with h'|rfl
  ·cases ha:L[a]? with
   |none=>rw[ha]at h';simp at h'
   |some row=>rw[ha]at h';exact h row (List.mem_of_getElem? ha) l h'
  ·exact hl
theorem sendS_links(s:RunS)(m:MsgS):(sendS s m).links=s.links.set m.src.toNat ((s.links[m.src.toNat]?.getD []).set m.dst.toNat {linkOf s m.src.toNat m.dst.toNat with all:=(linkOf s m.src.toNat m.dst.toNat).all++ [{m with no:=(linkOf s m.src.toNat m.dst.toNat).all.length+1}]}):=by
 unfold sendS wayS
 dsimp only
 split<;>split<;>rfl
theorem wayS_mem{s:RunS}{m m':MsgS}(h:m'∈(wayS s m).way):m'∈s.way\/m'=m:=by
 unfold wayS at h
 split at h
 ·rcases List.mem_append.1 h with h|h
  ·exact .inl h
  ·exact .inr (List.mem_singleton.1 h)
 ·exact .inl h
theorem sendS_mem{s:RunS}{m m':MsgS}(h:m'∈(sendS s m).way):m'∈s.way\/(m'.src=m.src/\m'.dst=m.dst):=by
 unfold sendS at h
 rcases wayS_mem h with h|h
 ·refine .inl ?_
  dsimp only at h
  split at h<;>exact h
 ·exact .inr (by rw[h];exact⟨rfl,rfl⟩)
theorem sendS_themode(s:RunS)(m:MsgS):(sendS s m).mode=s.mode:=by
 unfold sendS wayS
 dsimp only
 split<;>split<;>rfl
theorem Calm.send{s:RunS}(h:Calm s){m:MsgS}(hk:CalmM s.mode m):Calm (sendS s m):=by
 refine⟨?_,fun m' hm'=> ?_⟩
 ·rw[sendS_links,sendS_themode]
  refine CalmL.set h.links _ _ (fun m' hm'=> ?_)
  rcases List.mem_append.1 hm' with e|e
  ·exact CalmL.link h.links _ _ m' e
  ·rw[List.mem_singleton.1 e];exact hk.no _
 ·rcases sendS_mem hm' with e|e
  ·exact h.way m' e
  ·rw[e.1,e.2];exact hk.ne
theorem Calm.rest{s s':RunS}(h:Calm s)(e:s'.links=s.links)(e2:s'.way=s.way)(e3:s'.mode=s.mode:=by rfl):Calm s':=⟨by rw[e,e3];exact h.links,by rw[e2];exact h.way⟩
theorem Calm.work{N:Nat}{s:RunS}(h:Calm s)(hf:Fine N s)(i:Int):Calm (workS s i).1:=by
 unfold workS
 split
 ·exact h
 ·split
  ·exact h
  ·rename_i x hx
   split
   ·exact h
   ·rename_i t ht
    dsimp only
    split
    ·exact h.rest rfl rfl
    ·split
     ·exact h.rest rfl rfl
     ·rename_i hi0
      show Calm (sendS _ _)
      refine Calm.send ?_ ?_
      ·exact h.rest rfl rfl
      have hg:=(hf.works x (List.mem_of_getElem? hx)).good t (List.mem_of_getLast? ht)
      exact⟨by simp,by show t.id.size<=12;have:=hg.1.2.2.2;have:=hg.1.2.2.1;omega,valueOf_wf hf.prog hg.1,hi0,fun e=>by simp at e,fun e=>by simp at e⟩
theorem Calm.steal{s:RunS}(h:Calm s)(i v:Int):Calm (stealS s i v).1:=by
 unfold stealS
 split
 ·exact h
 ·split
  ·exact h
  ·split
   ·exact h
   ·rename_i hne
    split
    ·exact h
    ·split
     ·exact h
     ·show Calm (sendS _ _)
      refine Calm.send ?_ ?_
      ·exact h.rest rfl rfl
      ·exact calm_of (by simp) rfl hne (fun e=>by simp at e) (fun e=>by simp at e)
theorem Calm.drop{s:RunS}(h:Calm s)(k:Int):Calm (dropS s k).1:=by
 unfold dropS
 split
 ·exact h
 ·refine⟨h.links,fun m hm=> ?_⟩
  rcases List.mem_append.1 hm with e|e
  ·exact h.way m (List.mem_of_mem_take e)
  ·exact h.way m (List.mem_of_mem_drop e)
theorem Calm.put{s:RunS}(h:Calm s){m:MsgS}(hm:m.src≠m.dst):Calm (wayS s m):=by
 refine⟨?_,fun m' hm'=> ?_⟩
 ·have:(wayS s m).mode=s.mode/\(wayS s m).links=s.links:=by unfold wayS;split<;>exact⟨rfl,rfl⟩
  rw[this.1,this.2]
  exact h.links
 ·rcases wayS_mem hm' with e|rfl
  ·exact h.way m' e
  ·exact hm
theorem Calm.twice{s:RunS}(h:Calm s)(k:Int):Calm (twiceS s k).1:=by
 unfold twiceS
 split
 ·exact h
 ·rename_i hw
  obtain⟨h0,h1⟩:=messageE_range hw
  obtain⟨m,hm⟩:∃m,s.way[k.toNat]?= some m:=⟨_,List.getElem?_eq_getElem (by omega)⟩
  show Calm (wayS s _)
  rw[hm]
  exact h.put (h.way m (List.mem_of_getElem? hm))
theorem Calm.again{s:RunS}(h:Calm s){l:LinkS}(h0:0<=l.known){d:Int}(hl:∀m∈l.all,CalmM d m):Calm (againS s l):=by
 unfold againS
 split
 ·rename_i hk
  obtain⟨m,hm⟩:∃m,l.all[l.known.toNat]?= some m:=⟨_,List.getElem?_eq_getElem (by omega)⟩
  rw[hm]
  exact h.put (hl m (List.mem_of_getElem? hm)).ne
 ·exact h
theorem Calm.againAll(d:Int):∀(L:List LinkS) (s:RunS),Calm s->(∀l∈L,0<=l.known/\∀m∈l.all,CalmM d m)->Calm (L.foldl againS s):=by
 intro L
 induction L with
 |nil=>exact fun s h _=>h
 |cons l L ih=>
  intro s h hl
  rw[List.foldl_cons]
  exact ih _ (h.again (hl l (List.mem_cons_self ..)).1 (hl l (List.mem_cons_self ..)).2) (fun l' h'=>hl l' (List.mem_cons_of_mem _ h'))
theorem Calm.tick{N:Nat}{s:RunS}(h:Calm s)(hf:Fine N s)(i:Int):Calm (tickS s i).1:=by
 unfold tickS
 split
 ·exact h
 ·refine Calm.againAll s.mode _ _ h ?_
  cases hx:s.links[i.toNat]? with
  |none=>intro l hl;simp at hl
  |some ls=>
   intro l hl
   have hl':l∈ls:=by simpa using hl
   have hls:=List.mem_of_getElem? hx
   obtain⟨a,b,ha,hb,e⟩:=linkOf_mem hf.llen hf.lrow hls hl'
   exact⟨by rw[e];exact(hf.links a b ha hb).known.1,h.links ls hls l hl'⟩
theorem Calm.came{s:RunS}(h:Calm s){m:MsgS}(hm':CalmM s.mode m):Calm (cameS s m):=by
 have hm:=hm'.kind
 have hne:m.dst≠m.src:=fun e=>hm'.ne e.symm
 unfold cameS
 dsimp only
 split
 ·split
  ·exact h.send (calm_of (by show(3:Int)<=7;omega) rfl hne (fun e=>by simp at e) (fun e=>by simp at e))
  ·show Calm (sendS _ _)
   refine Calm.send ?_ ?_
   ·exact h.rest rfl rfl
   ·exact calm_of (by simp) rfl hne (fun e=>by simp at e) (fun e=>by simp at e)
 ·split
  ·exact h.rest rfl rfl
  ·split
   ·exact h.rest rfl rfl
   ·split
    ·exact h.rest rfl rfl
    ·split
     ·exact h.rest rfl rfl
     ·split
      ·rename_i h6
       exact h.send (calm_of (by show(7:Int)<=7;omega) rfl (by have:=hm'.wave h6;show m.dst≠0;omega) (fun e=>by simp at e) (fun e=>by simp at e))
      ·split
       ·unfold notedS
        split
        ·exact h
        ·exact h.rest rfl rfl
       ·exact h
theorem Calm.relink{s:RunS}(h:Calm s)(i j:Nat){l:LinkS}(hl:∀m∈l.all,CalmM s.mode m):Calm (setLink s i j l):=⟨CalmL.set h.links i j hl,h.way⟩
theorem Calm.come(i j:Nat):∀(f:Nat) (s:RunS),Calm s->Calm (comeS f s i j):=by
 intro f
 induction f with
 |zero=>exact fun s h=>h
 |succ f ih=>
  intro s h
  unfold comeS
  split
  ·refine ih _ ?_
   unfold stepS
   have h1:Calm (setLink s i j {linkOf s i j with came:=(linkOf s i j).came+1}):=h.relink i j (l:={linkOf s i j with came:=(linkOf s i j).came+1}) (CalmL.link h.links i j)
   cases hx:(linkOf s i j).all[(linkOf s i j).came.toNat]? with
   |none=>exact h1
   |some m=>exact h1.came (CalmL.link h.links i j m (List.mem_of_getElem? hx))
  ·exact h
theorem keepS_all(l:LinkS)(n:Int):(keepS l n).all=l.all/\(keepS l n).known=l.known/\(keepS l n).came=l.came:=by
 unfold keepS
 split<;>exact⟨rfl,rfl,rfl⟩
theorem Calm.unway{s:RunS}(h:Calm s)(k:Nat):Calm {s with way:=s.way.take k++s.way.drop (k+1)}:=by
 refine⟨h.links,fun m hm=> ?_⟩
 rcases List.mem_append.1 hm with e|e
 ·exact h.way m (List.mem_of_mem_take e)
 ·exact h.way m (List.mem_of_mem_drop e)
theorem Calm.deliver{s:RunS}(h:Calm s)(k:Int):Calm (deliverS s k).1:=by
 unfold deliverS
 split
 ·exact h
 ·rename_i hw
  obtain⟨h0,h1⟩:=messageE_range hw
  obtain⟨m,hm⟩:∃m,s.way[k.toNat]?= some m:=⟨_,List.getElem?_eq_getElem (by omega)⟩
  have hne:=h.way m (List.mem_of_getElem? hm)
  have hu:=h.unway k.toNat
  dsimp only
  rw[hm,Option.getD_some]
  split
  ·split
   ·exact hu.relink _ _ (CalmL.link hu.links _ _)
   ·exact hu
  ·refine(Calm.come _ _ _ _ ?_).put (fun e=>hne e.symm)
   refine hu.relink _ _ ?_
   rw[(keepS_all _ _).1]
   exact CalmL.link hu.links _ _
theorem Calm.new(workers room mode kind arg:Int)(ks:List KindS):Calm (newS workers room mode ks kind arg):=by
 refine⟨fun ls h l hl m hm=> ?_,fun m hm=>by simp[newS]at hm⟩
 have h1:ls=List.replicate workers.toNat link0:=List.eq_of_mem_replicate h
 rw[h1]at hl
 rw[List.eq_of_mem_replicate hl]at hm
 simp[link0]at hm
theorem Calm.pass{s:RunS}(h:Calm s)(i:Int):Calm (passS s i).1:=by
 unfold passS
 split
 ·exact h
 ·split
  ·exact h
  ·split
   ·exact h
   ·rename_i hc
    have hm:s.mode=1:=by
     by_cases e:s.mode=1
     ·exact e
     ·exact absurd (.inl e) hc
    dsimp only
    rename_i x _
    have hs:Calm (sendS s {msg0 with src:=i,dst:=i - 1,kind:=5,count:=x.token.count+x.sent - x.came,black:=x.token.black||x.black}):=h.send (calm_of (by show(5:Int)<=7;omega) rfl (by show i≠i - 1;omega) (fun _=>hm) (fun e=>by simp at e))
    exact hs.rest rfl rfl
theorem Calm.waves{r:Int}:∀(L:List Nat) (s:RunS),(∀k∈L,1<=k)->Calm s->Calm (L.foldl (waveS r) s):=by
 intro L
 induction L with
 |nil=>exact fun s _ h=>h
 |cons k L ih=>
  intro s hk h
  rw[List.foldl_cons]
  refine ih _ (fun k' h'=>hk k' (List.mem_cons_of_mem _ h')) ?_
  have:=hk k (List.mem_cons_self ..)
  exact h.send (calm_of (by show(6:Int)<=7;omega) rfl (by show(0:Int)≠(k:Int);omega) (fun e=>by simp at e) (fun _=>rfl))
theorem Calm.noted{s:RunS}(h:Calm s)(a b:Int)(c:Bool):Calm (notedS s a b c):=by
 unfold notedS
 split
 ·exact h
 ·exact h.rest rfl rfl
theorem Calm.check{N:Nat}{s:RunS}(h:Calm s)(hf:Fine N s):Calm (checkS s).1:=by
 have h2:=hf.two
 unfold checkS
 split
 ·exact h
 ·split
  ·rename_i hm
   unfold ringS
   split
   ·exact h
   ·split
    ·exact h
    ·split
     ·exact h.rest rfl rfl
     ·show Calm (sendS _ _)
      refine Calm.send ?_ ?_
      ·exact h.rest rfl rfl
      ·exact calm_of (by show(5:Int)<=7;omega) rfl (by show(0:Int)≠s.workers - 1;omega) (fun _=>hm) (fun e=>by simp at e)
  ·unfold wavesS
   split
   ·exact h
   ·split
    ·exact h
    ·split
     ·exact h.rest rfl rfl
     ·refine Calm.waves _ _ (fun k hk=> ?_) (Calm.noted ?_ _ _ _)
      ·simp at hk;omega
      ·exact h.rest rfl rfl
theorem setLink_set(s:RunS)(i j:Nat)(l l':LinkS)(hl:i < s.links.length):setLink (setLink s i j l) i j l'=setLink s i j l':=by
 unfold setLink
 dsimp only
 rw[List.getElem?_set_self hl]
 simp[List.getElem?_eq_getElem hl]
theorem sendS_setLink(s:RunS)(m:MsgS){i j:Nat}(l:LinkS)(hi:m.src.toNat≠i):sendS (setLink s i j l) m=setLink (sendS s m) i j l:=by
 have e:∀a,a≠i->(s.links.set i ((s.links[i]?.getD []).set j l))[a]?= s.links[a]?:=fun a ha=>List.getElem?_set_ne (fun e=>ha e.symm)
 have e2:∀(R:List LinkS),(s.links.set m.src.toNat R)[i]?= s.links[i]?:=fun R=>List.getElem?_set_ne hi
 unfold sendS wayS setLink
 dsimp only
 rw[e _ hi]
 have c:∀R,(s.links.set i ((s.links[i]?.getD []).set j l)).set m.src.toNat R=(s.links.set m.src.toNat R).set i ((s.links[i]?.getD []).set j l):=fun R=>List.set_comm _ _ (fun e=>hi e.symm)
 split<;>split<;>simp only[e2,c]<;>rfl
theorem cameS_setLink(s:RunS){m:MsgS}{i j:Nat}(l:LinkS)(hs:m.dst.toNat≠i):cameS (setLink s i j l) m=setLink (cameS s m) i j l:=by
 have hW:(setLink s i j l).W=s.W:=rfl
 unfold cameS
 dsimp only
 rw[hW]
 split
 ·split
  ·exact sendS_setLink s _ l hs
  ·rename_i t r _
   exact sendS_setLink {s with W:=s.W.set m.dst.toNat {s.W[m.dst.toNat]?.getD worker0 with tasks:=r}} _ l hs
 ·split
  ·rfl
  ·split
   ·rfl
   ·split
    ·rfl
    ·split
     ·rfl
     ·split
      ·exact sendS_setLink s _ l hs
      ·split
       ·unfold notedS
        have:(setLink s i j l).answers=s.answers:=rfl
        rw[this]
        split<;>rfl
       ·rfl
theorem foldl_setLink{i j:Nat}(l:LinkS):∀(L:List MsgS) (s:RunS),(∀m∈L,m.dst.toNat≠i)->L.foldl cameS (setLink s i j l)=setLink (L.foldl cameS s) i j l:=by
 intro L
 induction L with
 |nil=>exact fun s _=>rfl
 |cons m L ih=>
  intro s h
  rw[List.foldl_cons,List.foldl_cons,cameS_setLink s l (h m (List.mem_cons_self ..))]
  exact ih _ (fun m' h'=>h m' (List.mem_cons_of_mem _ h'))
theorem comeS_fold{i j:Nat}:∀(n f N d:Nat) (s:RunS),Fine N s->i < s.W.length->j < s.W.length->N+d<=90000000->(∀k∈(linkOf s i j).kept,k<=(linkOf s i j).came+d)->i≠j->Comes (linkOf s i j) n->n < f->n<=d->
  comeS f s i j=(((linkOf s i j).all.drop (linkOf s i j).came.toNat).take n).foldl cameS (setLink s i j ((linkOf s i j).on n)):=by
 intro n
 induction n with
 |zero=>
  intro f N d s h hi hj hN hk hij hc hf hd
  have h0:=hc.last
  rw[on_zero]at h0
  have hs:setLink s i j (linkOf s i j)=s:=by
   unfold setLink linkOf
   have hl:i < s.links.length:=by rw[h.llen];exact hi
   have hr:=h.lrow _ (List.getElem_mem hl)
   rw[List.getElem?_eq_getElem hl]
   have hj':j < s.links[i].length:=by omega
   simp[List.getElem?_eq_getElem hj']
  rw[List.take_zero,List.foldl_nil,on_zero,hs]
  cases f with
  |zero=>omega
  |succ f=>unfold comeS;rw[if_neg (by rw[h0];simp)]
 |succ n ih=>
  intro f N d s h hi hj hN hk hij hc hf hd
  cases f with
  |zero=>omega
  |succ f=>
   have h0:=hc.each 0 (by omega)
   rw[on_zero]at h0
   have hlk:=h.links i j hi hj
   have hnx:(linkOf s i j).came+1∈(linkOf s i j).kept:=by
    unfold nextB at h0
    obtain⟨x,hx,e⟩:=List.any_eq_true.1 h0
    rw[<-(beq_iff_eq.1 e)];exact hx
   have hb:=hlk.kept _ hnx
   have hc0:=hlk.came
   obtain⟨m,hm⟩:∃m,(linkOf s i j).all[(linkOf s i j).came.toNat]?= some m:=⟨_,List.getElem?_eq_getElem (by omega)⟩
   have hmo:=hlk.msgs _ m hm
   have hset:=linkOf_set {linkOf s i j with came:=(linkOf s i j).came+1} h.llen h.lrow hi hj i j
   rw[if_pos ⟨rfl,rfl⟩]at hset
   have hF1:Fine N (setLink s i j {linkOf s i j with came:=(linkOf s i j).came+1}):=h.relink hi hj (L:=[]) (by simp) ⟨hlk.msgs,hlk.all,hlk.known,by dsimp only;omega,fun k hk'=>by have:=hlk.kept k hk';dsimp only;omega,hlk.klen⟩ (Nat.le_refl _)
   have hmo1:MsgOK (setLink s i j {linkOf s i j with came:=(linkOf s i j).came+1}).ks ((setLink s i j {linkOf s i j with came:=(linkOf s i j).came+1}).answers≠ []) N i j (linkOf s i j).came.toNat m:=hmo
   have hstep:stepS s i j=cameS (setLink s i j {linkOf s i j with came:=(linkOf s i j).came+1}) m:=by unfold stepS;rw[hm];rfl
   have hl2:=(cameS_link hF1 hi hj hmo1).1
   have hlen2:(cameS (setLink s i j {linkOf s i j with came:=(linkOf s i j).came+1}) m).W.length=s.W.length:=(cameS_link hF1 hi hj hmo1).2
   rw[hset]at hl2
   have hF2:=hF1.came (by omega) hi hj hmo1
   have hd1:m.dst.toNat≠i:=by have:=hmo.dst;omega
   unfold comeS
   rw[if_pos h0,hstep]
   have e1:({linkOf s i j with came:=(linkOf s i j).came+1}:LinkS)=(linkOf s i j).on 1:=rfl
   rw[ih f (N+1) (d - 1) _ hF2 (by rw[hlen2];exact hi) (by rw[hlen2];exact hj) (by omega) (by rw[hl2];intro k hk';have:=hk k hk';dsimp only;omega) hij (by
    rw[hl2,e1]
    exact⟨fun k hk'=>by rw[on_on,Nat.add_comm];exact hc.each _ (by omega),by rw[on_on,Nat.add_comm];exact hc.last⟩) (by omega) (by omega)]
   rw[hl2,e1,on_on,Nat.add_comm 1 n]
   rw[<-cameS_setLink _ _ hd1,setLink_set _ _ _ _ _ (by rw[h.llen];exact hi)]
   have hdrop:(linkOf s i j).all.drop (linkOf s i j).came.toNat=m :: (linkOf s i j).all.drop ((linkOf s i j).came.toNat+1):=by
    rw[List.drop_eq_getElem_cons (List.getElem?_eq_some_iff.1 hm).1,(List.getElem?_eq_some_iff.1 hm).2]
   rw[hdrop,List.take_succ_cons,List.foldl_cons]
   have hcame:((linkOf s i j).on 1).came.toNat=(linkOf s i j).came.toNat+1:=by
    show((linkOf s i j).came+1).toNat=_
    omega
   rw[hcame]
   rfl
section
variable {e:Nat} {s:RunS}
end
section
variable {s:RunS} {k k':Nat}
end
end Go.Proofs.YtfanaanofjhlkaaGreatDoor
