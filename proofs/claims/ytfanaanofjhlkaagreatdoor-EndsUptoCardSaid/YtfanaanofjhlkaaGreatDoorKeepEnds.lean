import Derived.Test.YtfanaanofjhlkaaGreatDoorKeepTold
import Derived.Test.YtfanaanofjhlkaaGreatDoorKeepSafe
namespace Go.Proofs.YtfanaanofjhlkaaGreatDoor
open Go Go.RowKit
theorem over_stop{s:RunS}(h:s.over=true):startE s≠0:=fun e=>by
 have:=(startE_zero.1 e).2
 rw[h]at this
 cases this
theorem done_stop{s:RunS}(h:s.done=true):startE s≠0:=fun e=>by
 have:=(startE_zero.1 e).1
 rw[h]at this
 cases this
theorem Stays.turn(s:RunS)(w:Nat):Stays s (turnS s w):=((Stays.work s w).trans (Stays.pass _ w)).trans (Stays.tick _ w)
theorem Stays.drain:∀(n:Nat) (s:RunS),Stays s (drainS n s)
 |0,s=> .refl s
 |n+1,s=>by
  unfold drainS
  split
  ·exact(Stays.deliver s 0).trans (Stays.drain n _)
  ·exact .refl s
theorem turn_facts{g:TaskS->Nat}{N:Nat}{s:RunS}(hW:Whole N s)(hN:N+2<=90000000)(h0:startE s=0)(hT:Tree s.ks g fun _=>1){w:Nat}(hw:w < s.W.length) :
  (turnS s w).over=true\/(startE (turnS s w)=0/\Whole (N+2) (turnS s w)/\Sending 7 0 s (turnS s w)/\Down g s (turnS s w)/\(∀k,k≠w->((turnS s w).W[k]?).map (·.tasks)=(s.W[k]?).map (·.tasks))/\(∀x,s.W[w]?= some x->x.tasks≠ []->left g (turnS s w) < left g s)/\(s.way.length<=50->∀(c a:Nat) (s0:RunS),Sending c a s0 s->Ticked s0 (turnS s w) w)):=by
 rcases work_alive hW.fine h0 hw with ho|⟨h1,h2⟩
 ·refine .inl ?_
  unfold turnS
  rw[pass_stop (over_stop ho),tick_stop (over_stop ho)]
  exact ho
 ·refine .inr ?_
  have w1:=hW.work (w:Int)
  have h3:=pass_start h1 (w:Int)
  have w2:=w1.pass (by omega) (w:Int)
  have s1:=Sending.work hW.fine (w:Int)
  have s2:=Sending.pass w1.fine (w:Int)
  have s3:=Sending.tick w2.fine (w:Int)
  have c2:=(Ctl.pass w1.fine (w:Int)).as g
  have c3:=(Ctl.tick (passS (workS s w).1 w).1 (w:Int)).as g
  have l1:left g (workS s w).1<=left g s:=by
   by_cases q:(workS s w).2=0
   ·have:=left_work_some hW.fine hT w q
    omega
   ·rw[left_work_none g w q]
    exact Nat.le_refl _
  have hlen1:(passS (workS s w).1 w).1.W.length=s.W.length:=by
   have a:=w2.fine.len
   have b:=hW.fine.len
   have c:=(Stays.work s w).workers
   have d:=(Stays.pass (workS s w).1 w).workers
   omega
  refine⟨tick_start h3 _,w2.tick _,((s1.trans s2).trans s3).more (by omega) (by omega),?_,fun k hk=> ?_,fun x hx ht=> ?_,fun hl c a s0 hk=> ?_⟩
  ·exact Down.sending ((s1.trans s2).trans s3) (by unfold turnS;omega)
  ·unfold turnS
   rw[(Same.tick _ _).W,pass_others,work_others s (w:Int) (by simpa using hk)]
  ·have:=left_work_some hW.fine hT w (h2 x hx ht)
   unfold turnS
   omega
  ·refine tick_ticked w2.fine w2.told h3 (by omega) (hk.trans (s1.trans s2)) ?_
   obtain⟨t,e,hle,-⟩:=(s1.trans s2).way
   rw[e,List.length_append]
   omega
theorem turns_facts{g:TaskS->Nat}{N:Nat}{s:RunS}(hW:Whole N s)(hN:N+10<=90000000)(h0:startE s=0)(hT:Tree s.ks g fun _=>1):∀k,k<=s.W.length->
  ((List.range k).foldl turnS s).over=true\/(startE ((List.range k).foldl turnS s)=0/\Whole (N+2*k) ((List.range k).foldl turnS s)/\Sending (7*k) 0 s ((List.range k).foldl turnS s)/\Down g s ((List.range k).foldl turnS s)/\(∀i,k<=i->(((List.range k).foldl turnS s).W[i]?).map (·.tasks)=(s.W[i]?).map (·.tasks))/\(∀i x,i < k->s.W[i]?= some x->x.tasks≠ []->left g ((List.range k).foldl turnS s) < left g s)/\(s.way=[]->∀i,i < k->Ticked s ((List.range k).foldl turnS s) i)/\((List.range k).foldl turnS s).W.length=s.W.length/\Stays s ((List.range k).foldl turnS s)):=by
 have h5:=hW.fine.five
 have hlen:=hW.fine.len
 intro k
 induction k with
 |zero=>intro _;exact .inr ⟨h0,hW,.refl s,.refl g s,fun _ _=>rfl,fun i x hi=>absurd hi (by omega),fun _ i hi=>absurd hi (by omega),rfl,.refl s⟩
 |succ k ih=>
  intro hk
  rw[List.range_succ,List.foldl_append,List.foldl_cons,List.foldl_nil]
  rcases ih (by omega)with ho|⟨a1,a2,a3,a4,a5,a6,a7,a8,a9⟩
  ·refine .inl ?_
   rw[turn_stop (over_stop ho)]
   exact ho
  ·generalize (List.range k).foldl turnS s=S at *
   rcases turn_facts (g:=g) a2 (by omega) a1 (by rw[a9.ks];exact hT) (w:=k) (by omega)with ho|⟨b1,b2,b3,b4,b5,b6,b7⟩
   ·exact .inl ho
   ·have hlT:(turnS S k).W.length=s.W.length:=by
     have x:=b2.fine.len
     have y:=(Stays.turn S k).workers
     have z:=a9.workers
     omega
    refine .inr ⟨b1,b2.more (by omega),(a3.trans b3).more (by omega) (by omega),a4.trans b4 (fun x y=>(a2.fine.fit x y).2),fun i hi=> ?_,fun i x hi hx ht=> ?_,fun hw i hi=> ?_,hlT,a9.trans (.turn S k)⟩
    ·rw[b5 i (by omega),a5 i (by omega)]
    ·by_cases q:i < k
     ·have:=a6 i x q hx ht
      have:=b4.le
      omega
     ·obtain rfl:i=k:=by omega
      have e:=a5 i (Nat.le_refl _)
      rw[hx]at e
      cases hy:S.W[i]? with
      |none=>rw[hy]at e;cases e
      |some y=>
       rw[hy]at e
       have e:y.tasks=x.tasks:=Option.some.inj e
       have:=b6 y hy (by rw[e];exact ht)
       have:=a4.le
       omega
    ·by_cases q:i < k
     ·exact(a7 hw i q).sending b3 (by omega)
     ·obtain rfl:i=k:=by omega
      refine b7 ?_ _ _ s a3
      obtain⟨t,e,hle,-⟩:=a3.way
      rw[e,hw,List.nil_append]
      omega
theorem check_over(s:RunS):(checkS s).1.over=s.over:=by
 have hos:∀(s:RunS) (m:MsgS),(sendS s m).over=s.over:=fun s m=>by
  unfold sendS wayS
  dsimp only
  split<;>split<;>rfl
 have hw:∀(r:Int) (L:List Nat) (s:RunS),(L.foldl (waveS r) s).over=s.over:=fun r L=>by
  induction L with
  |nil=>exact fun s=>rfl
  |cons k L ih=>intro s;rw[List.foldl_cons];exact(ih _).trans (hos s _)
 unfold checkS ringS wavesS
 dsimp only
 repeat' split
 all_goals first|rfl|(rw[hos])|(rw[hw];unfold notedS;split<;>rfl)
theorem linkOf_out{N:Nat}{s:RunS}(h:Fine N s){a b:Nat}(hab:¬(a < s.W.length/\b < s.W.length)):linkOf s a b=link0:=by
 by_cases ha:a < s.W.length
 ·have h1:s.links[a]?= some (s.links[a]'(by rw[h.llen];exact ha)):=List.getElem?_eq_getElem _
  have h2:=h.lrow _ (List.mem_of_getElem? h1)
  unfold linkOf
  rw[h1,Option.getD_some,List.getElem?_eq_none (by omega)]
  rfl
 ·unfold linkOf
  rw[show s.links[a]?= none from List.getElem?_eq_none (by rw[h.llen];omega)]
  rfl
theorem load_few{N:Nat}{s:RunS}(h:Whole N s):load s < 1000:=by
 have a:=ask_few h.steady h.sure.waves
 have b:=h.fine.w60
 have c:=crowd_load s
 unfold crowd at c
 omega
theorem round_facts{g:TaskS->Nat}{N:Nat}{s:RunS}(hW:Whole N s)(hN:N+6000<=90000000)(h0:startE s=0)(hT:Tree s.ks g fun _=>1) :
  (roundS s).over=true\/(roundS s).done=true\/(startE (roundS s)=0/\Whole (N+5016) (roundS s)/\(roundS s).way=[]/\Down g s (roundS s)/\(s.way=[]->Still (roundS s))/\(∀x∈s.W,x.tasks≠ []->left g (roundS s) < left g s)/\(Still s->∀i j,(linkOf s i j).came < ((linkOf s i j).all.length:Int)->(linkOf s i j).came+1<=(linkOf (roundS s) i j).came)/\(roundS s).ks=s.ks):=by
 have h5:=hW.fine.five
 have hlen:=hW.fine.len
 unfold roundS turnsS
 rcases turns_facts hW (by omega) h0 hT s.W.length (Nat.le_refl _)with ho|⟨a1,a2,a3,a4,-,a6,a7,a8,a9⟩
 ·refine .inl ?_
  rw[check_stop (over_stop ho),drain_stop (over_stop ho)]
  exact ho
 ·generalize (List.range s.W.length).foldl turnS s=S at *
  have c1:=a2.check (by omega)
  have c2:=Sending.check a2.fine (by omega)
  have c3:=(Ctl.check a2.fine (by omega)).as g
  cases hd:(checkS S).1.done with
  |true=>
   refine .inr (.inl ?_)
   rw[drain_stop (done_stop hd)]
   exact hd
  |false=>
   have h1:startE (checkS S).1=0:=startE_zero.2 ⟨hd,by rw[check_over];exact(startE_zero.1 a1).2⟩
   have hlC:(checkS S).1.W.length=s.W.length:=by
    have x:=c1.fine.len
    have y:=(Stays.check S).workers
    have z:=a9.workers
    omega
   have hks:(checkS S).1.ks=s.ks:=(Stays.check S).ks.trans a9.ks
   have dC:Down g s (checkS S).1:=a4.trans (Down.sending c2 (by omega)) (fun x y=>(a2.fine.fit x y).2)
   have hcrowd:s.way=[]->crowd (checkS S).1<=60:=fun hw=>by
    obtain⟨t,e,hle,-⟩:=(a3.trans c2).way
    have x:=(a3.trans c2).ask
    have y:=ask_few hW.steady hW.sure.waves
    unfold crowd
    rw[e,hw,List.nil_append]
    omega
   have htick:s.way=[]->∀i,i < s.W.length->Ticked s (checkS S).1 i:=fun hw i hi=>(a7 hw i hi).sending c2 (by omega)
   generalize (checkS S).1=C at *
   have e1:=drain_ind (P:=fun _=>True) (fun _ _ _ _ _ _ _ _ _ _=>trivial) 1000 _ C c1.fine (by omega) h1 trivial
   have hld:=load_few c1
   have dD:Down g s (drainS 1000 C):=dC.trans (Down.drain c1.fine (by omega) h1) (fun x y=>(c1.fine.fit x y).2)
   have hD:=Whole.drain 1000 _ C c1 (by omega)
   refine .inr (.inr ⟨e1.2.2.1,hD.more (by omega),e1.2.2.2 hld,dD,fun hw=> ?_,fun x hx ht=> ?_,fun hS i j hlt=> ?_,?_⟩)
   ·refine(drain_still c1.fine (by omega) h1 c1.told (hcrowd hw) (fun i j=> ?_) hld).1
    by_cases hij:i < s.W.length/\j < s.W.length
    ·rcases htick hw i hij.1 j (by omega)with q|⟨m,hm,q0,q1,q2,-⟩
     ·exact .inl q.1
     ·exact .inr (.inr ⟨m,hm,q0,q1,q2⟩)
    ·refine .inl ?_
     rw[linkOf_out c1.fine (by rw[hlC];exact hij)]
     rfl
   ·obtain⟨i,hi⟩:=List.mem_iff_getElem?.1 hx
    have:=a6 i x (List.getElem?_eq_some_iff.1 hi).1 hi ht
    have:=(Down.drain (g:=g) c1.fine (n:=1000) (by omega) h1).le
    omega
   ·have hij:i < s.W.length/\j < s.W.length:=by
     refine Decidable.by_contra (fun q=> ?_)
     rw[linkOf_out hW.fine q]at hlt
     exact absurd hlt (by decide)
    refine drain_going c1.fine (by omega) h1 ?_ hld
    have hc:=(a3.trans c2).came i j
    rcases htick hS.way i hij.1 j (by omega)with q|⟨m,hm,q0,q1,q2,q3⟩
    ·exact absurd hlt (by omega)
    ·have hk:=(a3.trans c2).known i j
     have hk2:=hS.known i j
     exact .inr ⟨by omega,m,hm,q0,q1,q2,by omega⟩
   ·exact(Stays.drain 1000 C).ks.trans hks
def roundsS:Nat->RunS->RunS
 |0,s=>s
 |n+1,s=>roundsS n (roundS s)
theorem rounds_add:∀(a b:Nat) (s:RunS),roundsS (a+b) s=roundsS b (roundsS a s)
 |0,b,s=>by rw[Nat.zero_add];rfl
 |a+1,b,s=>by
  rw[show a+1+b=(a+b)+1 by omega]
  exact rounds_add a b (roundS s)
theorem round_stop{s:RunS}(h:startE s≠0):roundS s=s:=by
 unfold roundS turnsS
 rw[turns_stop h,check_stop h,drain_stop h]
theorem rounds_stop{s:RunS}(h:startE s≠0):∀n,roundsS n s=s
 |0=>rfl
 |n+1=>by
  show roundsS n (roundS s)=s
  rw[round_stop h,rounds_stop h n]
theorem Stays.turns:∀(L:List Nat) (s:RunS),Stays s (L.foldl turnS s)
 |[],s=> .refl s
 |a :: L,s=>by rw[List.foldl_cons];exact(Stays.turn s a).trans (Stays.turns L _)
theorem Stays.round(s:RunS):Stays s (roundS s):=((Stays.turns _ s).trans (Stays.check _)).trans (Stays.drain _ _)
theorem two_sum(f:MsgS->Nat):∀(l:List MsgS) (a b:Nat) (x y:MsgS),a < b->l[a]?= some x->l[b]?= some y->f x+f y<=(l.map f).sum
 |[],a,b,x,y,_,h,_=>by simp at h
 |m :: l,0,b+1,x,y,_,h1,h2=>by
  have e:m=x:=by simpa using h1
  subst e
  have:=mem_sum f l y (List.mem_of_getElem? (by simpa using h2))
  rw[List.map_cons,List.sum_cons]
  omega
 |m :: l,a+1,b+1,x,y,hab,h1,h2=>by
  have:=two_sum f l a b x y (by omega) (by simpa using h1) (by simpa using h2)
  rw[List.map_cons,List.sum_cons]
  omega
 |m :: l,a,0,x,y,hab,_,_=>absurd hab (by omega)
theorem link_total(f:MsgS->Nat){s:RunS}(h:Form s){i j:Nat}(hi:i < s.W.length)(hj:j < s.W.length):linkSum f (linkOf s i j)<=total f s:=by
 have hll:=h.llen
 have h1:s.links[i]?= some (s.links[i]'(by omega)):=List.getElem?_eq_getElem _
 have h2:=h.lrow _ (List.mem_of_getElem? h1)
 have h3:(s.links[i]'(by omega))[j]?= some ((s.links[i]'(by omega))[j]'(by omega)):=List.getElem?_eq_getElem _
 have e:linkOf s i j=(s.links[i]'(by omega))[j]'(by omega):=by unfold linkOf;rw[h1,Option.getD_some,h3,Option.getD_some]
 rw[e]
 have a2:=mem_sum (linkSum f) (s.links[i]'(by omega)) _ (List.mem_of_getElem? h3)
 have a3:=mem_sum (fun ls=>(ls.map (linkSum f)).sum) s.links _ (List.mem_of_getElem? h1)
 show _<=(s.links.map fun ls=>(ls.map (linkSum f)).sum).sum
 omega
theorem ctl_once{N:Nat}{s:RunS}(hW:Whole N s){i j a b:Nat}{x y:MsgS}(hi:i < s.W.length)(hj:j < s.W.length)(hab:a < b)(ha:(linkOf s i j).came<=a)(hx:(linkOf s i j).all[a]?= some x)(hy:(linkOf s i j).all[b]?= some y)(kx:5<=x.kind)(ky:5<=y.kind):False:=by
 have hok:=hW.fine.links i j hi hj
 have h0:=hok.came
 have ox:=hok.msgs a x hx
 have oy:=hok.msgs b y hy
 have hkx:=ox.kind
 have hky:=oy.kind
 have hs:∀f:MsgS->Nat,f x+f y<=total f s:=fun f=>by
  have:=two_sum f ((linkOf s i j).all.drop (linkOf s i j).came.toNat) (a - (linkOf s i j).came.toNat) (b - (linkOf s i j).came.toNat) x y (by omega) (by rw[List.getElem?_drop,Nat.add_sub_cancel' (by omega)];exact hx) (by rw[List.getElem?_drop,Nat.add_sub_cancel' (by omega)];exact hy)
  exact Nat.le_trans this (link_total f hW.fine.form hi hj)
 by_cases hm:s.mode=1
 ·obtain⟨r1,r2,r3⟩:=hW.ctrl.ring hm
  have s6:=hs f6
  have s7:=hs f7
  have s5:=hs tok
  have e:∀z:MsgS,5<=z.kind->z.kind<=7->f6 z=0->f7 z=0->tok z=1:=fun z h1 h2 h3 h4=>by
   unfold tok
   rw[if_pos]
   unfold f6 at h3
   unfold f7 at h4
   split at h3
   ·cases h3
   ·split at h4
    ·cases h4
    ·omega
  have:=e x kx hkx.2 (by omega) (by omega)
  have:=e y ky hky.2 (by omega) (by omega)
  omega
 ·obtain⟨w1,w2⟩:=hW.ctrl.waves hm
  have s5:=hs tok
  have e5:∀z:MsgS,tok z=0->z.kind≠5:=fun z h e=>by
   unfold tok at h
   rw[if_pos e]at h
   cases h
  have x5:=e5 x (by omega)
  have y5:=e5 y (by omega)
  have hne:=ox.ne
  by_cases q:i=0
  ·have x6:x.kind=6:=by
    by_cases x7:x.kind=7
    ·exact absurd (ox.rep x7) (by omega)
    ·omega
   have y6:y.kind=6:=by
    by_cases y7:y.kind=7
    ·exact absurd (oy.rep y7) (by omega)
    ·omega
   have a1:fW j x=1:=if_pos ⟨x6,ox.dst⟩
   have a2:fW j y=1:=if_pos ⟨y6,oy.dst⟩
   have:=hs (fW j)
   have:=w2 j
   omega
  ·have x7:x.kind=7:=by
    by_cases x6:x.kind=6
    ·exact absurd (ox.wave x6) q
    ·omega
   have y7:y.kind=7:=by
    by_cases y6:y.kind=6
    ·exact absurd (oy.wave y6) q
    ·omega
   have a1:fR i x=1:=if_pos ⟨x7,ox.src⟩
   have a2:fR i y=1:=if_pos ⟨y7,oy.src⟩
   have:=hs (fR i)
   have:=w2 i
   omega
structure Idle(s:RunS):Prop where
 tasks:∀x∈s.W,x.tasks=[]
 only:∀i j (k:Nat) m,(linkOf s i j).came<=k->(linkOf s i j).all[k]?= some m->5<=m.kind
theorem not_idle{g:TaskS->Nat}{N:Nat}{s:RunS}(hW:Whole N s)(hl:0 < left g s):(∃x∈s.W,x.tasks≠ [])\/∃(i j k:Nat) (m:MsgS),i < s.W.length/\j < s.W.length/\(linkOf s i j).came<=k/\(linkOf s i j).all[k]?= some m/\m.kind<=4:=by
 refine Classical.byContradiction (fun q=> ?_)
 have q1:∀x∈s.W,x.tasks=[]:=fun x hx=>Decidable.by_contra (fun h=>q (.inl ⟨x,hx,h⟩))
 have hz:∀f:MsgS->Nat,(∀m,5<=m.kind->f m=0)->total f s=0:=fun f hf=>sum_none (fun ls h1=>sum_none (fun l h2=>by
  obtain⟨i,j,hi,hj,rfl⟩:=links_in hW.fine.form h1 h2
  refine sum_none (fun m hm=>hf m ?_)
  obtain⟨k,hk⟩:=List.mem_iff_getElem?.1 hm
  rw[List.getElem?_drop]at hk
  have h0:=(hW.fine.links i j hi hj).came
  refine Decidable.by_contra (fun h=>q (.inr ⟨i,j,_,m,hi,hj,?_,hk,by omega⟩))
  omega))
 have t0:tasksSum (fun t=>2*g t) s=0:=sum_none (fun x hx=>by rw[q1 x hx];rfl)
 have t1:=hz (weigh (fun t=>2*g t) fun _=>1) (fun m hm=>by unfold weigh;rw[if_neg (by omega),if_neg (by omega)])
 have t2:=hz askW (fun m hm=>by unfold askW;rw[if_neg (by omega),if_neg (by omega)])
 unfold left at hl
 omega
theorem is_idle{g:TaskS->Nat}{N:Nat}{s:RunS}(hW:Whole N s)(hg:∀t,1<=g t)(hl:left g s=0):Idle s:=by
 unfold left at hl
 have t0:tasksSum (fun t=>2*g t) s=0:=by omega
 have t1:total (weigh (fun t=>2*g t) fun _=>1) s=0:=by omega
 have t2:total askW s=0:=by omega
 refine⟨fun x hx=> ?_,fun i j k m hk hm=> ?_⟩
 ·cases e:x.tasks with
  |nil=>rfl
  |cons t r=>
   have a:=mem_sum (fun x:WorkerS=>(x.tasks.map fun t=>2*g t).sum) s.W x hx
   have b:(x.tasks.map fun t=>2*g t).sum=2*g t+(r.map fun t=>2*g t).sum:=by rw[e,List.map_cons,List.sum_cons]
   have c:=hg t
   have d:tasksSum (fun t=>2*g t) s=(s.W.map fun x:WorkerS=>(x.tasks.map fun t=>2*g t).sum).sum:=rfl
   omega
 ·by_cases hij:i < s.W.length/\j < s.W.length
  ·have hok:=hW.fine.links i j hij.1 hij.2
   have h0:=hok.came
   have hk1:=(hok.msgs k m hm).kind
   have hs:∀f:MsgS->Nat,f m<=total f s:=fun f=>by
    have:m∈(linkOf s i j).all.drop (linkOf s i j).came.toNat:=by
     refine List.mem_iff_getElem?.2 ⟨k - (linkOf s i j).came.toNat,?_⟩
     rw[List.getElem?_drop,Nat.add_sub_cancel' (by omega)]
     exact hm
    exact Nat.le_trans (mem_sum f _ m this) (link_total f hW.fine.form hij.1 hij.2)
   have s1:=hs (weigh (fun t=>2*g t) fun _=>1)
   have s2:=hs askW
   refine Decidable.by_contra (fun q=> ?_)
   by_cases c1:m.kind=1
   ·have:askW m=2:=if_pos c1
    omega
   ·by_cases c2:m.kind=2\/m.kind=3
    ·have:askW m=1:=by unfold askW;rw[if_neg c1,if_pos c2]
     omega
    ·have:weigh (fun t=>2*g t) (fun _=>1) m=1:=by unfold weigh;rw[if_neg (by omega),if_pos (by omega)]
     omega
  ·rw[linkOf_out hW.fine hij]at hm
   simp[link0]at hm
def Ended(s:RunS):Prop:=s.over=true\/s.done=true
theorem Ended.stop{s:RunS}(h:Ended s):startE s≠0:=by
 rcases h with h|h
 ·exact over_stop h
 ·exact done_stop h
theorem Ended.rounds{s:RunS}(h:Ended s)(n:Nat):Ended (roundsS n s):=by rw[rounds_stop h.stop];exact h
theorem round_less{g:TaskS->Nat}{N:Nat}{s:RunS}(hW:Whole N s)(hN:N+12000<=90000000)(h0:startE s=0)(hT:Tree s.ks g fun _=>1)(hS:Still s)(hl:0 < left g s) :
  Ended (roundS s)\/left g (roundS s) < left g s\/Ended (roundS (roundS s))\/left g (roundS (roundS s)) < left g s:=by
 rcases round_facts hW (by omega) h0 hT with h|h|⟨a1,a2,-,a4,a5,a6,a7,a8⟩
 ·exact .inl (.inl h)
 ·exact .inl (.inr h)
 ·rcases not_idle hW hl with⟨x,hx,ht⟩|⟨i,j,k,m,hi,hj,hk,hm,hm4⟩
  ·exact .inr (.inl (a6 x hx ht))
  ·have hlt:=(List.getElem?_eq_some_iff.1 hm).1
   have hok:=hW.fine.links i j hi hj
   have hc:=hok.came
   rcases a4.less with b|⟨b1,b2⟩
   ·exact .inr (.inl b)
   ·have hup:=a7 hS i j (by omega)
    have hold:∀(n:Nat) (y:MsgS),(linkOf s i j).all[n]?= some y->(linkOf (roundS s) i j).all[n]?= some y:=fun n y hy=>by
     obtain⟨t,e⟩:=a4.all i j
     rw[<-e,List.getElem?_append_left (List.getElem?_eq_some_iff.1 hy).1]
     exact hy
    have hhead:(linkOf s i j).all[(linkOf s i j).came.toNat]?= some ((linkOf s i j).all[(linkOf s i j).came.toNat]'(by omega)):=List.getElem?_eq_getElem _
    have k5:=b2 i j (linkOf s i j).came.toNat _ (by omega) (by omega) (hold _ _ hhead)
    have hk1:(linkOf s i j).came.toNat < k:=by
     refine Decidable.by_contra (fun q=> ?_)
     obtain rfl:k=(linkOf s i j).came.toNat:=by omega
     rw[hhead]at hm
     have:=congrArg MsgS.kind (Option.some.inj hm)
     omega
    have hnext:(linkOf s i j).all[(linkOf s i j).came.toNat+1]?= some ((linkOf s i j).all[(linkOf s i j).came.toNat+1]'(by omega)):=List.getElem?_eq_getElem _
    have k4:((linkOf s i j).all[(linkOf s i j).came.toNat+1]'(by omega)).kind<=4:=by
     refine Decidable.by_contra (fun q=> ?_)
     exact ctl_once hW hi hj (Nat.lt_succ_self _) (by omega) hhead hnext k5 (by omega)
    have hcm:(linkOf (roundS s) i j).came=(linkOf s i j).came+1:=by
     refine Decidable.by_contra (fun q=> ?_)
     have:=b2 i j ((linkOf s i j).came.toNat+1) _ (by omega) (by omega) (hold _ _ hnext)
     omega
    have hS2:=a5 hS.way
    rcases round_facts (g:=g) a2 (by omega) a1 (by rw[a8];exact hT)with h|h|⟨c1,c2,-,c4,c5,c6,c7,c8⟩
    ·exact .inr (.inr (.inl (.inl h)))
    ·exact .inr (.inr (.inl (.inr h)))
    ·refine .inr (.inr (.inr ?_))
     have hlt2:=(List.getElem?_eq_some_iff.1 (hold _ _ hnext)).1
     have hup2:=c7 hS2 i j (by omega)
     rcases c4.less with d|⟨d1,d2⟩
     ·omega
     ·have hold2:(linkOf (roundS (roundS s)) i j).all[(linkOf s i j).came.toNat+1]?= some ((linkOf s i j).all[(linkOf s i j).came.toNat+1]'(by omega)):=by
       obtain⟨t,e⟩:=c4.all i j
       rw[<-e,List.getElem?_append_left hlt2]
       exact hold _ _ hnext
      have:=d2 i j ((linkOf s i j).came.toNat+1) _ (by omega) (by omega) hold2
      omega
theorem rounds_idle{g:TaskS->Nat}(hg:∀t,1<=g t):∀(L N:Nat) (s:RunS),Whole N s->N+5016*(2*L)+12000<=90000000->startE s=0->Tree s.ks g (fun _=>1)->Still s->left g s<=L->∃k,k<=2*L/\(Ended (roundsS k s)\/(startE (roundsS k s)=0/\(∃M,M<=N+5016*k/\Whole M (roundsS k s))/\Still (roundsS k s)/\Idle (roundsS k s)/\(roundsS k s).ks=s.ks/\left g (roundsS k s)=0)):=by
 intro L
 induction L with
 |zero=>
  intro N s hW hN h0 hT hS hl
  have hz:left g s=0:=Nat.le_zero.1 hl
  exact⟨0,by omega,.inr ⟨h0,⟨N,by omega,hW⟩,hS,is_idle hW hg hz,rfl,hz⟩⟩
 |succ L ih=>
  intro N s hW hN h0 hT hS hl
  by_cases hz:left g s=0
  ·exact⟨0,by omega,.inr ⟨h0,⟨N,by omega,hW⟩,hS,is_idle hW hg hz,rfl,hz⟩⟩
  ·rcases round_facts hW (by omega) h0 hT with h|h|⟨a1,a2,-,a4,a5,a6,a7,a8⟩
   ·exact⟨1,by omega,.inl (.inl h)⟩
   ·exact⟨1,by omega,.inl (.inr h)⟩
   ·have hS1:=a5 hS.way
    rcases round_facts (g:=g) a2 (by omega) a1 (by rw[a8];exact hT)with h|h|⟨c1,c2,-,c4,c5,c6,c7,c8⟩
    ·exact⟨2,by omega,.inl (.inl h)⟩
    ·exact⟨2,by omega,.inl (.inr h)⟩
    ·have hS2:=c5 hS1.way
     have hlt:left g (roundS (roundS s)) < left g s:=by
      rcases round_less hW (by omega) h0 hT hS (by omega)with h|h|h|h
      ·exact absurd a1 h.stop
      ·have:=c4.le
       omega
      ·exact absurd c1 h.stop
      ·exact h
     obtain⟨k,hk,hr⟩:=ih (N+5016+5016) (roundS (roundS s)) c2 (by omega) c1 (by rw[c8,a8];exact hT) hS2 (by omega)
     have e:roundsS (k+2) s=roundsS k (roundS (roundS s)):=rfl
     refine⟨k+2,by omega,?_⟩
     rw[e]
     rcases hr with h|⟨h1,⟨M,hM,h2⟩,h3,h4,h5,h6⟩
     ·exact .inl h
     ·exact .inr ⟨h1,⟨M,by omega,h2⟩,h3,h4,by rw[h5,c8,a8],h6⟩
def Stage(c:Nat)(W:List WorkerS)(t:Nat)(q:Int)(b:Bool):Prop:=
 (c=0->b=false/\(∀x∈W,x.black=false)/\q=((W.drop (t+1)).map dif).sum)/\(c=1->(∀(k:Nat) x,W[k]?= some x->t < k\/k=0->x.black=false)/\q=((W.drop (t+1)).map dif).sum)
def LocH(c t:Nat)(s:RunS):Prop:=∃x,s.W[t]?= some x/\x.has=true/\Stage c s.W t x.token.count x.token.black/\(t=0->c<=1->s.around=true)
def LocF(c i t k:Nat)(s:RunS):Prop:=∃m,(linkOf s i t).all[k]?= some m/\m.kind=5/\(linkOf s i t).came<=k/\i < s.W.length/\t < s.W.length/\Stage c s.W t m.count m.black
theorem set_get{W:List WorkerS}{t k:Nat}{x' y:WorkerS}(ht:t < W.length)(hy:(W.set t x')[k]?= some y):(k=t/\y=x')\/(k≠t/\W[k]?= some y):=by
 by_cases q:k=t
 ·subst q
  rw[List.getElem?_set_self ht]at hy
  exact .inl ⟨rfl,(Option.some.inj hy).symm⟩
 ·rw[List.getElem?_set_ne (fun e=>q e.symm)]at hy
  exact .inr ⟨q,hy⟩
structure Ringing(g:TaskS->Nat)(N:Nat)(s:RunS):Prop where
 whole:Whole N s
 start:startE s=0
 none:left g s=0
 mode:s.mode=1
 pos:∀t,1<=g t
section
variable {g:TaskS->Nat} {N:Nat} {s:RunS}
theorem Ringing.idle(h:Ringing g N s):Idle s:=is_idle h.whole h.pos h.none
theorem Ringing.work(h:Ringing g N s)(w:Int):(workS s w).1=s:=by
 unfold workS
 split
 ·rfl
 ·split
  ·rfl
  ·rename_i x hx
   have:=h.idle.tasks x (List.mem_of_getElem? hx)
   rw[this]
   rfl
theorem has_one(h:Ringing g N s){a b:Nat}{x y:WorkerS}(hx:s.W[a]?= some x)(hy:s.W[b]?= some y)(h1:x.has=true)(h2:y.has=true):a=b:=by
 have h0:=(h.whole.ctrl.ring h.mode).1
 have e:∀(l:List WorkerS) (a b:Nat),a < b->l[a]?= some x->l[b]?= some y->hasN x+hasN y<=(l.map hasN).sum:=fun l=>by
  induction l with
  |nil=>intro a b _ h;simp at h
  |cons z l ih=>
   intro a b hab ha hb
   rw[List.map_cons,List.sum_cons]
   cases b with
   |zero=>exact absurd hab (by omega)
   |succ b=>
    cases a with
    |zero=>
     have e:z=x:=by simpa using ha
     subst e
     have:=mem_sum hasN l y (List.mem_of_getElem? (by simpa using hb))
     omega
    |succ a=>
     have:=ih a b (by omega) (by simpa using ha) (by simpa using hb)
     omega
 have n1:hasN x=1:=by unfold hasN;rw[if_pos h1]
 have n2:hasN y=1:=by unfold hasN;rw[if_pos h2]
 refine Decidable.by_contra (fun q=> ?_)
 have hh:held s=(s.W.map hasN).sum:=rfl
 by_cases hab:a < b
 ·have:=e s.W a b hab hx hy
  omega
 ·have e2:∀(l:List WorkerS) (a b:Nat),a < b->l[a]?= some y->l[b]?= some x->hasN y+hasN x<=(l.map hasN).sum:=fun l=>by
   induction l with
   |nil=>intro a b _ h;simp at h
   |cons z l ih=>
    intro a b hab ha hb
    rw[List.map_cons,List.sum_cons]
    cases b with
    |zero=>exact absurd hab (by omega)
    |succ b=>
     cases a with
     |zero=>
      have e:z=y:=by simpa using ha
      subst e
      have:=mem_sum hasN l x (List.mem_of_getElem? (by simpa using hb))
      omega
     |succ a=>
      have:=ih a b (by omega) (by simpa using ha) (by simpa using hb)
      omega
  have:=e2 s.W b a (by omega) hy hx
  omega
theorem fly_none(h:Ringing g N s){c i t k:Nat}(hl:LocF c i t k s):∀x∈s.W,x.has=false:=by
 obtain⟨m,hm,h5,hc,hi,ht,-⟩:=hl
 have h0:=(h.whole.ctrl.ring h.mode).1
 have hu:Under s i t m:=⟨hi,ht,k,by have:=(h.whole.fine.links i t hi ht).came;omega,hm⟩
 have h1:=hu.weigh h.whole.fine.llen h.whole.fine.lrow tok
 have h2:tok m=1:=if_pos h5
 intro x hx
 cases q:x.has with
 |false=>rfl
 |true=>
  have n1:hasN x=1:=by unfold hasN;rw[if_pos q]
  have:=mem_sum hasN s.W x hx
  have hh:held s=(s.W.map hasN).sum:=rfl
  omega
theorem LocF.same{s':RunS}{c i t k:Nat}(hl:LocF c i t k s)(e:Same s s'):LocF c i t k s':=by
 obtain⟨m,hm,h5,hc,hi,ht,hs⟩:=hl
 exact⟨m,by rw[(e.links i t).1];exact hm,h5,by rw[(e.links i t).2];exact hc,by rw[e.W];exact hi,by rw[e.W];exact ht,by rw[e.W];exact hs⟩
theorem LocH.same{s':RunS}{c t:Nat}(hl:LocH c t s)(e:Same s s'):LocH c t s':=by
 obtain⟨x,hx,hh,hs,ha⟩:=hl
 exact⟨x,by rw[e.W];exact hx,hh,by rw[e.W];exact hs,fun h1 h2=>by rw[e.around];exact ha h1 h2⟩
theorem pass_keeps{w:Nat}(h:∀x,s.W[w]?= some x->x.has=false\/w=0):(passS s w).1=s:=by
 unfold passS
 split
 ·rfl
 ·rw[Int.toNat_natCast]
  split
  ·rfl
  ·rename_i x hx
   rw[if_pos]
   rcases h x hx with q|q
   ·exact .inr (.inr (.inl q))
   ·exact .inr (.inl (by omega))
theorem turn_fly(h:Ringing g N s){c i t k w:Nat}(hl:LocF c i t k s):LocF c i t k (turnS s w):=by
 unfold turnS
 rw[h.work,pass_keeps (fun x hx=> .inl (fly_none h hl x (List.mem_of_getElem? hx)))]
 exact hl.same (Same.tick s w)
theorem turn_hold(h:Ringing g N s){c t w:Nat}(hl:LocH c t s)(hw:w≠t\/t=0):LocH c t (turnS s w):=by
 unfold turnS
 rw[h.work,pass_keeps (fun y hy=> ?_)]
 ·exact hl.same (Same.tick s w)
 ·obtain⟨x,hx,hh,-⟩:=hl
  by_cases q:w=t
  ·exact .inr (by omega)
  ·refine .inl ?_
   cases e:y.has with
   |false=>rfl
   |true=>exact absurd (has_one h hy hx e hh) q
theorem turn_pass(h:Ringing g N s){c t:Nat}(hl:LocH c t s)(ht:0 < t):∃k,LocF c t (t - 1) k (turnS s t):=by
 obtain⟨x,hx,hh,hs,-⟩:=hl
 have hF:=h.whole.fine
 have htl:=(List.getElem?_eq_some_iff.1 hx).1
 have hlen:=hF.len
 unfold turnS
 rw[h.work]
 refine⟨(linkOf s t (t - 1)).all.length,LocF.same ?_ (Same.tick _ _)⟩
 have hd:((t:Int) - 1).toNat=t - 1:=by omega
 unfold passS
 rw[if_neg (by rw[workerE_zero h.start (by omega)];simp),Int.toNat_natCast,hx]
 dsimp only
 rw[if_neg (by
  have:=h.idle.tasks x (List.mem_of_getElem? hx)
  rw[h.mode,hh,this]
  simp
  omega)]
 dsimp only
 have hi:({msg0 with src:=(t:Int),dst:=(t:Int) - 1,kind:=5,count:=x.token.count+x.sent - x.came,black:=x.token.black||x.black}:MsgS).src.toNat < s.W.length:=by show(t:Int).toNat < _;simpa using htl
 have hj:({msg0 with src:=(t:Int),dst:=(t:Int) - 1,kind:=5,count:=x.token.count+x.sent - x.came,black:=x.token.black||x.black}:MsgS).dst.toNat < s.W.length:=by show((t:Int) - 1).toNat < _;omega
 have hlk:=linkOf_sends s {msg0 with src:=(t:Int),dst:=(t:Int) - 1,kind:=5,count:=x.token.count+x.sent - x.came,black:=x.token.black||x.black} hF.llen hF.lrow hi hj t (t - 1)
 rw[if_pos ⟨by show t=(t:Int).toNat;simp,by show t - 1=((t:Int) - 1).toNat;omega⟩]at hlk
 have hW:(sendS s {msg0 with src:=(t:Int),dst:=(t:Int) - 1,kind:=5,count:=x.token.count+x.sent - x.came,black:=x.token.black||x.black}).W=s.W:=sendS_W _ _ (by show¬((5:Int)=2\/(5:Int)=4);decide)
 have hcm:=(hF.links t (t - 1) htl (by omega)).came
 refine⟨{msg0 with src:=(t:Int),dst:=(t:Int) - 1,no:=(linkOf s t (t - 1)).all.length+1,kind:=5,count:=x.token.count+x.sent - x.came,black:=x.token.black||x.black},?_,rfl,?_,?_,?_,?_⟩
 ·show(linkOf (sendS s _) t (t - 1)).all[_]?= _
  rw[hlk]
  simp
 ·show(linkOf (sendS s _) t (t - 1)).came<=_
  rw[hlk]
  exact hcm.2
 ·show t < ((sendS s _).W.set _ _).length
  rw[List.length_set,hW]
  exact htl
 ·show t - 1 < ((sendS s _).W.set _ _).length
  rw[List.length_set,hW]
  omega
 ·show Stage c ((sendS s _).W.set t {x with black:=false,has:=false}) (t - 1) (x.token.count+x.sent - x.came) (x.token.black||x.black)
  rw[hW]
  have hdrop:((s.W.set t {x with black:=false,has:=false}).drop (t - 1+1)).map dif=dif x :: (s.W.drop (t+1)).map dif:=by
   rw[show t - 1+1=t by omega,List.drop_eq_getElem_cons (by rw[List.length_set];exact htl),List.map_cons,List.getElem_set_self,List.drop_set_of_lt (by omega)]
   rfl
  have hset:∀(k:Nat) y,(s.W.set t {x with black:=false,has:=false})[k]?= some y->(k=t/\y.black=false)\/(k≠t/\s.W[k]?= some y):=fun k y hy=>by
   rcases set_get htl hy with⟨q,e⟩|q
   ·exact .inl ⟨q,by rw[e]⟩
   ·exact .inr q
  refine⟨fun h0=> ?_,fun h1=> ?_⟩
  ·obtain⟨a1,a2,a3⟩:=hs.1 h0
   refine⟨by rw[a1,a2 x (List.mem_of_getElem? hx)];rfl,fun y hy=> ?_,?_⟩
   ·obtain⟨k,hk⟩:=List.mem_iff_getElem?.1 hy
    rcases hset k y hk with q|q
    ·exact q.2
    ·exact a2 y (List.mem_of_getElem? q.2)
   ·rw[hdrop,List.sum_cons,<-a3]
    unfold dif
    omega
  ·obtain⟨a2,a3⟩:=hs.2 h1
   refine⟨fun k y hk hkt=> ?_,?_⟩
   ·rcases hset k y hk with q|q
    ·exact q.2
    ·exact a2 k y q.2 (by omega)
   ·rw[hdrop,List.sum_cons,<-a3]
    unfold dif
    omega
theorem check_fly(h:Ringing g N s){c i t k:Nat}(hl:LocF c i t k s):(checkS s).1=s:=by
 unfold checkS
 split
 ·rfl
 ·rw[if_pos h.mode]
  unfold ringS
  split
  ·rfl
  ·rename_i x hx
   rw[if_pos (.inl (fly_none h hl x (List.mem_of_getElem? hx)))]
theorem check_hold(h:Ringing g N s){c:Nat}(hl:LocH c 0 s)(hc:c<=2):(checkS s).1.done=true\/(0 < c/\∃k,LocF (c - 1) 0 (s.W.length - 1) k (checkS s).1):=by
 obtain⟨x,hx,hh,hs,har⟩:=hl
 have hF:=h.whole.fine
 have hlen:=hF.len
 have h2:=hF.two
 have htk:=h.idle.tasks x (List.mem_of_getElem? hx)
 have hW0:s.W=x :: s.W.drop 1:=by
  have:=List.drop_eq_getElem_cons (l:=s.W) (i:=0) (by omega)
  rw[List.drop_zero]at this
  have e:s.W[0]'(by omega)=x:=by
   have:=List.getElem?_eq_getElem (l:=s.W) (i:=0) (by omega)
   rw[hx]at this
   exact(Option.some.inj this).symm
  rw[e]at this
  exact this
 have hbal:dif x+((s.W.drop (0+1)).map dif).sum=0:=by
  have e:bal s=(s.W.map dif).sum:=rfl
  have e2:=h.whole.sure.even.eq
  have e3:total works s=0:=by
   have:=h.none
   unfold left at this
   have hle:total works s<=total (weigh (fun t=>2*g t) fun _=>1) s:=total_le (fun m=>by
    unfold works weigh
    by_cases q2:m.kind=2
    ·rw[if_pos (.inl q2),if_pos q2]
     show 1<=2*g m.t
     have:=h.pos m.t
     omega
    ·by_cases q4:m.kind=4
     ·rw[if_pos (.inr q4),if_neg q2,if_pos q4]
      exact Nat.le_refl _
     ·rw[if_neg (by omega)]
      exact Nat.zero_le _) s
   omega
  have e4:(s.W.map dif).sum=dif x+((s.W.drop (0+1)).map dif).sum:=by
   conv=>lhs;rw[hW0]
   rw[List.map_cons,List.sum_cons]
  rw[e3]at e2
  omega
 unfold checkS
 rw[if_neg (by rw[h.start];simp),if_pos h.mode]
 unfold ringS
 rw[hx]
 dsimp only
 rw[if_neg (by rw[hh,htk];simp)]
 split
 ·exact .inl rfl
 ·rename_i hr
  have hcp:0 < c:=by
   refine Decidable.by_contra (fun q=> ?_)
   obtain rfl:c=0:=by omega
   obtain⟨a1,a2,a3⟩:=hs.1 rfl
   refine hr ?_
   unfold roundB
   rw[har rfl (by omega),a1,a2 x (List.mem_of_getElem? hx)]
   have:x.token.count+x.sent - x.came=0:=by
    have e:dif x=x.sent - x.came:=rfl
    omega
   rw[this]
   rfl
  refine .inr ⟨hcp,(linkOf s 0 (s.W.length - 1)).all.length,?_⟩
  have hfo:Form {s with W:=s.W.set 0 {x with black:=false,has:=false}}:=hF.form.rework rfl (by simp)
  have hlk:=linkOf_sends {s with W:=s.W.set 0 {x with black:=false,has:=false}} {msg0 with src:=0,dst:=s.workers - 1,kind:=5} hfo.llen hfo.lrow (by show(0:Int).toNat < _;simp;omega) (by show(s.workers - 1).toNat < _;simp;omega) 0 (s.W.length - 1)
  rw[if_pos ⟨rfl,by show s.W.length - 1=(s.workers - 1).toNat;omega⟩]at hlk
  have hW:(sendS {s with W:=s.W.set 0 {x with black:=false,has:=false}} {msg0 with src:=0,dst:=s.workers - 1,kind:=5}).W=s.W.set 0 {x with black:=false,has:=false}:=sendS_W _ _ (by show¬((5:Int)=2\/(5:Int)=4);decide)
  have hcm:=(hF.links 0 (s.W.length - 1) (by omega) (by omega)).came
  have hset:∀(k:Nat) y,(s.W.set 0 {x with black:=false,has:=false})[k]?= some y->(k=0/\y.black=false)\/(k≠0/\s.W[k]?= some y):=fun k y hy=>by
   rcases set_get (by omega) hy with⟨q,e⟩|q
   ·exact .inl ⟨q,by rw[e]⟩
   ·exact .inr q
  have hdr:((s.W.set 0 {x with black:=false,has:=false}).drop (s.W.length - 1+1)).map dif=[]:=by
   rw[List.drop_eq_nil_of_le (by rw[List.length_set];omega)]
   rfl
  refine⟨{msg0 with src:=0,dst:=s.workers - 1,no:=(linkOf s 0 (s.W.length - 1)).all.length+1,kind:=5},?_,rfl,?_,?_,?_,?_⟩
  ·rw[hlk]
   show((linkOf s 0 (s.W.length - 1)).all++ [_])[(linkOf s 0 (s.W.length - 1)).all.length]?= _
   simp
   rfl
  ·rw[hlk]
   exact hcm.2
  ·rw[hW,List.length_set]
   omega
  ·rw[hW,List.length_set]
   omega
  ·rw[hW]
   refine⟨fun h0=>⟨rfl,fun y hy=> ?_,by rw[hdr];rfl⟩,fun h1=>⟨fun k y hk hkt=> ?_,by rw[hdr];rfl⟩⟩
   ·obtain⟨k,hk⟩:=List.mem_iff_getElem?.1 hy
    rcases hset k y hk with q|q
    ·exact q.2
    ·exact(hs.2 (by omega)).1 k y q.2 (.inl (by omega))
   ·rcases hset k y hk with q|q
    ·exact q.2
    ·have:=(List.getElem?_eq_some_iff.1 q.2).1
     exact absurd hkt (by omega)
theorem loc_thing{c i t k a b:Nat}{m:MsgS}(hc:Ctrl s)(hn:left g s=0)(hmode:s.mode=1)(h:Fine N s)(ha:a < s.W.length)(hb:b < s.W.length)(hg:(linkOf s a b).all[(linkOf s a b).came.toNat]?= some m)(hm:MsgOK s.ks (s.answers≠ []) N a b (linkOf s a b).came.toNat m)(hl:LocF c i t k s\/LocH c t s):LocF c i t k (cameS (setLink s a b {linkOf s a b with came:=(linkOf s a b).came+1}) m)\/LocH c t (cameS (setLink s a b {linkOf s a b with came:=(linkOf s a b).came+1}) m):=by
 have hk:=hm.kind
 obtain⟨r1,r2,r3⟩:=hc.ring hmode
 have h0:=(h.links a b ha hb).came
 have hu:Under s a b m:=⟨ha,hb,_,Nat.le_refl _,hg⟩
 have hwt:=fun f=>hu.weigh h.llen h.lrow f
 have h5:m.kind=5:=by
  have w6:=hwt f6
  have w7:=hwt f7
  have w1:=hwt (weigh (fun t=>2*g t) fun _=>1)
  have w2:=hwt askW
  unfold left at hn
  refine Decidable.by_contra (fun q=> ?_)
  by_cases q6:m.kind=6
  ·have:f6 m=1:=if_pos q6
   omega
  ·by_cases q7:m.kind=7
   ·have:f7 m=1:=if_pos q7
    omega
   ·by_cases c1:m.kind=1
    ·have:askW m=2:=if_pos c1
     omega
    ·by_cases c2:m.kind=2\/m.kind=3
     ·have:askW m=1:=by unfold askW;rw[if_neg c1,if_pos c2]
      omega
     ·have:weigh (fun t=>2*g t) (fun _=>1) m=1:=by unfold weigh;rw[if_neg (by omega),if_pos (by omega)]
      omega
 have htm:tok m=1:=if_pos h5
 have ht1:=hwt tok
 rcases hl with hl|⟨x,hx,hh,-⟩
 ·obtain⟨m',hm',h5',hc',hi,ht,hs⟩:=hl
  have hone:a=i/\b=t/\(linkOf s a b).came.toNat=k:=by
   refine Classical.byContradiction (fun q=> ?_)
   have key:2<=total tok s:=by
    by_cases hab:a=i/\b=t
    ·obtain⟨rfl,rfl⟩:=hab
     have hkc:(linkOf s a b).came.toNat < k:=by
      have:(linkOf s a b).came.toNat≠k:=fun e=>q ⟨rfl,rfl,e⟩
      omega
     have:=two_sum tok ((linkOf s a b).all.drop (linkOf s a b).came.toNat) 0 (k - (linkOf s a b).came.toNat) m m' (by omega) (by rw[List.getElem?_drop,Nat.add_zero];exact hg) (by rw[List.getElem?_drop,Nat.add_sub_cancel' (by omega)];exact hm')
     have e2:tok m'=1:=if_pos h5'
     have:=Nat.le_trans this (link_total tok h.form ha hb)
     omega
    ·have a1:=total_step tok h ha hb hg
     have hlk:=linkOf_set {linkOf s a b with came:=(linkOf s a b).came+1} h.llen h.lrow ha hb i t
     rw[if_neg (fun e=>hab ⟨e.1.symm,e.2.symm⟩)]at hlk
     have hfS:Form (setLink s a b {linkOf s a b with came:=(linkOf s a b).came+1}):=by
      refine⟨?_,?_,fun p q hp hq=> ?_⟩
      ·show(s.links.set a _).length=s.W.length
       rw[List.length_set]
       exact h.llen
      ·intro ls hls
       show ls.length=s.W.length
       have hll:=h.llen
       have hga:s.links[a]?= some (s.links[a]'(by omega)):=List.getElem?_eq_getElem _
       rcases List.mem_or_eq_of_mem_set hls with e|e
       ·exact h.lrow ls e
       ·rw[e,List.length_set,hga,Option.getD_some]
        exact h.lrow _ (List.mem_of_getElem? hga)
      ·rw[linkOf_set {linkOf s a b with came:=(linkOf s a b).came+1} h.llen h.lrow ha hb p q]
       split
       ·have:=(List.getElem?_eq_some_iff.1 hg).1
        dsimp only
        omega
       ·exact(h.links p q hp hq).came
     have b1:tok m'<=linkSum tok (linkOf s i t):=by
      refine mem_sum tok _ m' (List.mem_iff_getElem?.2 ⟨k - (linkOf s i t).came.toNat,?_⟩)
      have:=(h.links i t hi ht).came
      rw[List.getElem?_drop,Nat.add_sub_cancel' (by omega)]
      exact hm'
     have b2:=link_total tok hfS (i:=i) (j:=t) hi ht
     rw[hlk]at b2
     have e2:tok m'=1:=if_pos h5'
     omega
   omega
  obtain⟨rfl,rfl,hke⟩:=hone
  rw[<-hke,hg]at hm'
  obtain rfl:=Option.some.inj hm'
  refine .inr ?_
  have hd:=hm.dst
  have hbx:s.W[m.dst.toNat]?= some (s.W[m.dst.toNat]'(by rw[hd];simpa using hb)):=List.getElem?_eq_getElem _
  have hdb:m.dst.toNat=b:=by rw[hd];simp
  unfold cameS
  dsimp only
  rw[if_neg (by omega),if_neg (by omega),if_neg (by omega),if_neg (by omega),if_pos h5]
  rw[show(setLink s a b {linkOf s a b with came:=(linkOf s a b).came+1}).W=s.W from rfl,hdb]
  have hgb:s.W[b]?= some (s.W[b]'hb):=List.getElem?_eq_getElem _
  rw[hgb,Option.getD_some]
  have hset:∀(n:Nat) y,(s.W.set b {s.W[b]'hb with has:=true,token:=m})[n]?= some y->∃z,s.W[n]?= some z/\y.black=z.black:=fun n y hy=>by
   rcases set_get hb hy with⟨q,e⟩|q
   ·subst q
    exact⟨_,hgb,by rw[e]⟩
   ·exact⟨y,q.2,rfl⟩
  have hdr:((s.W.set b {s.W[b]'hb with has:=true,token:=m}).drop (b+1)).map dif=(s.W.drop (b+1)).map dif:=by
   rw[List.drop_set_of_lt (by omega)]
  refine⟨{s.W[b]'hb with has:=true,token:=m},List.getElem?_set_self hb,rfl,?_,?_⟩
  ·refine⟨fun h0=> ?_,fun h1=> ?_⟩
   ·obtain⟨a1,a2,a3⟩:=hs.1 h0
    refine⟨a1,fun y hy=> ?_,?_⟩
    ·obtain⟨n,hn⟩:=List.mem_iff_getElem?.1 hy
     obtain⟨z,hz,e⟩:=hset n y hn
     rw[e]
     exact a2 z (List.mem_of_getElem? hz)
    ·show m.count=((List.drop (b+1) _).map dif).sum
     rw[hdr]
     exact a3
   ·obtain⟨a2,a3⟩:=hs.2 h1
    refine⟨fun n y hn hnt=> ?_,?_⟩
    ·obtain⟨z,hz,e⟩:=hset n y hn
     rw[e]
     exact a2 n z hz hnt
    ·show m.count=((List.drop (b+1) _).map dif).sum
     rw[hdr]
     exact a3
  ·intro hb0 _
   show(s.around||m.dst==0)=true
   rw[hd,hb0]
   simp
 ·have n1:hasN x=1:=by unfold hasN;rw[if_pos hh]
  have:=mem_sum hasN s.W x (List.mem_of_getElem? hx)
  have e:held s=(s.W.map hasN).sum:=rfl
  omega
theorem loc_drain{c i t k:Nat}:∀(n N:Nat) (s:RunS),Ringing g N s->N+5*n<=90000000->(LocF c i t k s\/LocH c t s)->LocF c i t k (drainS n s)\/LocH c t (drainS n s):=by
 intro n
 induction n with
 |zero=>intro N s _ _ hl;exact hl
 |succ n ih=>
  intro N s h hN hl
  unfold drainS
  split
  ·have hd:=Down.deliver (g:=g) h.whole.fine (by omega) 0
   refine ih (N+5) _ ⟨h.whole.deliver (by omega) 0,deliver_start h.start 0,by have:=hd.le;have:=h.none;omega,(Stays.deliver s 0).mode.trans h.mode,h.pos⟩ (by omega) ?_
   refine(deliver_ind (P:=fun s=>(LocF c i t k s\/LocH c t s)/\Ctrl s/\left g s=0/\s.mode=1) (fun s1 s2 e hp=>⟨?_,hp.2.1.apart (.same e),by rw[(Ctl.same e).as];exact hp.2.2.1,e.mode.trans hp.2.2.2⟩) (fun N' s1 a b m hF _ ha hb hg hm hF2 hp=>⟨loc_thing hp.2.1 hp.2.2.1 hp.2.2.2 hF ha hb hg hm hp.1,hp.2.1.thing hF ha hb hg hm hF2,?_,?_⟩) ⟨hl,h.whole.ctrl,h.none,h.mode⟩ h.whole.fine (by omega) 0).1
   ·rcases hp.1 with q|q
    ·exact .inl (q.same e)
    ·exact .inr (q.same e)
   ·have:=left_came g hF ha hb hg hm hF2
    have:=hp.2.2.1
    omega
   ·exact(Stays.came _ m).mode.trans hp.2.2.2
  ·exact hl
theorem Ringing.turn(h:Ringing g N s)(hN:N+2<=90000000)(w:Nat):Ringing g (N+2) (turnS s w):=by
 have w1:=(h.whole.work (w:Int)).pass (by omega) (w:Int)
 have e:=h.work (w:Int)
 refine⟨w1.tick _,?_,?_,(Stays.turn s w).mode.trans h.mode,h.pos⟩
 ·unfold turnS
  rw[e]
  exact tick_start (pass_start h.start _) _
 ·unfold turnS
  rw[(Ctl.tick _ _).as,(Ctl.pass (h.whole.work (w:Int)).fine _).as,e]
  exact h.none
theorem Ringing.turns(h:Ringing g N s)(hN:N+10<=90000000):∀k,k<=5->Ringing g (N+2*k) ((List.range k).foldl turnS s):=by
 intro k
 induction k with
 |zero=>intro _;exact h
 |succ k ih=>
  intro hk
  rw[List.range_succ,List.foldl_append,List.foldl_cons,List.foldl_nil]
  exact(ih (by omega)).turn (by omega) k
theorem turns_fly(h:Ringing g N s)(hN:N+10<=90000000){c i t k:Nat}(hl:LocF c i t k s):∀n,n<=5->LocF c i t k ((List.range n).foldl turnS s):=by
 intro n
 induction n with
 |zero=>intro _;exact hl
 |succ n ih=>
  intro hn
  rw[List.range_succ,List.foldl_append,List.foldl_cons,List.foldl_nil]
  exact turn_fly (h.turns hN n (by omega)) (ih (by omega))
theorem turns_hold(h:Ringing g N s)(hN:N+10<=90000000){c t:Nat}(hl:LocH c t s):∀n,n<=5->(n<=t\/t=0->LocH c t ((List.range n).foldl turnS s))/\(t < n->0 < t->∃k,LocF c t (t - 1) k ((List.range n).foldl turnS s)):=by
 intro n
 induction n with
 |zero=>intro _;exact⟨fun _=>hl,fun h=>absurd h (by omega)⟩
 |succ n ih=>
  intro hn
  rw[List.range_succ,List.foldl_append,List.foldl_cons,List.foldl_nil]
  have hr:=h.turns hN n (by omega)
  obtain⟨i1,i2⟩:=ih (by omega)
  refine⟨fun q=>turn_hold hr (i1 (by omega)) (by omega),fun q1 q2=> ?_⟩
  by_cases e:t=n
  ·subst e
   exact turn_pass hr (i1 (.inl (Nat.le_refl _))) q2
  ·obtain⟨k,hk⟩:=i2 (by omega) q2
   exact⟨k,turn_fly hr hk⟩
def LocAt(r:Nat)(s:RunS):Prop:=(∃c t,c<=2/\t < 5/\r=20*c+2*t/\LocH c t s)\/(∃c i t k,c<=2/\t < 5/\r=20*c+2*t+1/\LocF c i t k s)
theorem round_ring(h:Ringing g N s)(hN:N+6000<=90000000)(hT:Tree s.ks g fun _=>1)(hS:Still s){r:Nat}(hl:LocAt r s):Ended (roundS s)\/(Ringing g (N+5016) (roundS s)/\Still (roundS s)/\∃r',r' < r/\LocAt r' (roundS s)):=by
 have h5:=h.whole.fine.five
 have h2:=h.whole.fine.two
 have hlen:=h.whole.fine.len
 rcases round_facts h.whole hN h.start hT with q|q|⟨a1,a2,-,a4,a5,-,a7,a8⟩
 ·exact .inl (.inl q)
 ·exact .inl (.inr q)
 ·have hn:left g (roundS s)=0:=by
   have:=a4.le
   have:=h.none
   omega
  have hR:Ringing g (N+5016) (roundS s):=⟨a2,a1,hn,(Stays.round s).mode.trans h.mode,h.pos⟩
  refine .inr ⟨hR,a5 hS.way,?_⟩
  have hRT:=h.turns (by omega) s.W.length (by omega)
  have hd:(checkS ((List.range s.W.length).foldl turnS s)).1.done=false:=by
   cases e:(checkS ((List.range s.W.length).foldl turnS s)).1.done with
   |false=>rfl
   |true=>
    exfalso
    have:roundS s=(checkS ((List.range s.W.length).foldl turnS s)).1:=drain_stop (done_stop e) 1000
    rw[this]at a1
    exact done_stop e a1
  have hRC:Ringing g (N+2*s.W.length+6) (checkS ((List.range s.W.length).foldl turnS s)).1:=by
   refine⟨hRT.whole.check (by omega),startE_zero.2 ⟨hd,by rw[check_over];exact(startE_zero.1 hRT.start).2⟩,?_,(Stays.check _).mode.trans hRT.mode,h.pos⟩
   rw[(Ctl.check hRT.whole.fine (by omega)).as]
   exact hRT.none
  have hW:((List.range s.W.length).foldl turnS s).W.length=s.W.length:=by
   have x:=hRT.whole.fine.len
   have y:Stays s ((List.range s.W.length).foldl turnS s):=Stays.turns _ s
   have:=y.workers
   omega
  have fly:∀{c i t k:Nat},LocF c i t k (checkS ((List.range s.W.length).foldl turnS s)).1->LocF c i t k (roundS s)\/LocH c t (roundS s):=fun hf=>loc_drain 1000 _ _ hRC (by omega) (.inl hf)
  rcases hl with⟨c,t,hc,ht,rfl,hl⟩|⟨c,i,t,k,hc,ht,rfl,hl⟩
  ·obtain⟨i1,i2⟩:=turns_hold h (by omega) hl s.W.length (by omega)
   have htl:t < s.W.length:=by
    obtain⟨x,hx,-⟩:=hl
    exact(List.getElem?_eq_some_iff.1 hx).1
   by_cases t0:t=0
   ·subst t0
    rcases check_hold hRT (i1 (.inr rfl)) hc with q|⟨q1,k,q2⟩
    ·rw[hd]at q
     cases q
    ·rw[hW]at q2
     rcases fly q2 with f|f
     ·exact⟨20*(c - 1)+2*(s.W.length - 1)+1,by omega,.inr ⟨c - 1,_,_,_,by omega,by omega,rfl,f⟩⟩
     ·exact⟨20*(c - 1)+2*(s.W.length - 1),by omega,.inl ⟨c - 1,_,by omega,by omega,rfl,f⟩⟩
   ·obtain⟨k,hk⟩:=i2 htl (by omega)
    rw[<-check_fly hRT hk]at hk
    rcases fly hk with f|f
    ·exact⟨20*c+2*(t - 1)+1,by omega,.inr ⟨c,_,_,_,hc,by omega,rfl,f⟩⟩
    ·exact⟨20*c+2*(t - 1),by omega,.inl ⟨c,_,hc,by omega,rfl,f⟩⟩
  ·have hk:=turns_fly h (by omega) hl s.W.length (by omega)
   rw[<-check_fly hRT hk]at hk
   rcases fly hk with f|f
   ·exfalso
    obtain⟨m,hm,m5,hcm,hi,htl,-⟩:=hl
    obtain⟨m',hm',m5',hcm',-⟩:=f
    have hlt:=(List.getElem?_eq_some_iff.1 hm).1
    have h0:=(h.whole.fine.links i t hi htl).came
    have hup:=a7 hS i t (by omega)
    have hkc:(linkOf s i t).came.toNat < k:=by omega
    have hhead:(linkOf s i t).all[(linkOf s i t).came.toNat]?= some ((linkOf s i t).all[(linkOf s i t).came.toNat]'(by omega)):=List.getElem?_eq_getElem _
    exact ctl_once h.whole hi htl hkc (by omega) hhead hm (h.idle.only i t _ _ (by omega) hhead) (by omega)
   ·exact⟨20*c+2*t,by omega,.inl ⟨c,t,hc,ht,rfl,f⟩⟩
theorem loc_first(h:Ringing g N s):∃r,r < 60/\LocAt r s:=by
 have h5:=h.whole.fine.five
 have hlen:=h.whole.fine.len
 obtain⟨r1,-,-⟩:=h.whole.ctrl.ring h.mode
 by_cases hh:∃(t:Nat) (x:WorkerS),s.W[t]?= some x/\x.has=true
 ·obtain⟨t,x,hx,hb⟩:=hh
  have:=(List.getElem?_eq_some_iff.1 hx).1
  exact⟨20*2+2*t,by omega,.inl ⟨2,t,by omega,by omega,rfl,x,hx,hb,⟨fun e=>absurd e (by omega),fun e=>absurd e (by omega)⟩,fun _ e=>absurd e (by omega)⟩⟩
 ·have hz:held s=0:=sum_none (fun x hx=>by
   obtain⟨t,ht⟩:=List.mem_iff_getElem?.1 hx
   unfold hasN
   rw[if_neg (fun e=>hh ⟨t,x,ht,e⟩)])
  have hfl:∃(i t k:Nat) (m:MsgS),i < s.W.length/\t < s.W.length/\(linkOf s i t).came<=k/\(linkOf s i t).all[k]?= some m/\m.kind=5:=by
   refine Classical.byContradiction (fun q=> ?_)
   have:total tok s=0:=sum_none (fun ls h1=>sum_none (fun l h2=>by
    obtain⟨i,j,hi,hj,rfl⟩:=links_in h.whole.fine.form h1 h2
    refine sum_none (fun m hm=>if_neg (fun e=>q ?_))
    obtain⟨k,hk⟩:=List.mem_iff_getElem?.1 hm
    rw[List.getElem?_drop]at hk
    have h0:=(h.whole.fine.links i j hi hj).came
    exact⟨i,j,_,m,hi,hj,by omega,hk,e⟩))
   omega
  obtain⟨i,t,k,m,hi,ht,hk,hm,m5⟩:=hfl
  exact⟨20*2+2*t+1,by omega,.inr ⟨2,i,t,k,by omega,by omega,rfl,m,hm,m5,hk,hi,ht,⟨fun e=>absurd e (by omega),fun e=>absurd e (by omega)⟩⟩⟩
theorem rounds_ring:∀(r N:Nat) (s:RunS),Ringing g N s->N+5016*r+6000<=90000000->Tree s.ks g (fun _=>1)->Still s->(∃r',r' < r/\LocAt r' s)->Ended (roundsS r s):=by
 intro r
 induction r with
 |zero=>intro N s _ _ _ _ hl;obtain⟨r',h,-⟩:=hl;exact absurd h (by omega)
 |succ r ih=>
  intro N s h hN hT hS hl
  obtain⟨r',hr,hl⟩:=hl
  have e:roundsS (r+1) s=roundsS r (roundS s):=rfl
  rw[e]
  rcases round_ring h (by omega) hT hS hl with q|⟨q1,q2,r2,q3,q4⟩
  ·exact q.rounds r
  ·exact ih (N+5016) _ q1 (by omega) (by rw[(Stays.round s).ks];exact hT) q2 ⟨r2,by omega,q4⟩
end
structure OnTrack(s:RunS)(b:AnsS):Prop where
 sent:told s b=sumS s
 came:toldC s b=sumC s
 idle:b.idle=true
 busy:total fB s=0
def WAt(c:Nat)(s:RunS):Prop:=c<=1->∃L b,s.answers=L++ [b]/\OnTrack s b/\(c=0->∃L' a,L=L'++ [a]/\a.sent=sumS s/\a.came=sumC s)
def f67(m:MsgS):Nat:=if m.kind=6 then 2 else if m.kind=7 then 1 else 0
structure Waving(g:TaskS->Nat)(N:Nat)(s:RunS):Prop where
 whole:Whole N s
 start:startE s=0
 none:left g s=0
 mode:s.mode≠1
 pos:∀t,1<=g t
theorem WAt.same{c:Nat}{s s':RunS}(h:WAt c s)(e:Same s s'):WAt c s':=fun hc=>by
 obtain⟨L,b,h1,h2,h3⟩:=h hc
 have hs:sumS s'=sumS s:=by unfold sumS;rw[e.W]
 have hm:sumC s'=sumC s:=by unfold sumC;rw[e.W]
 have ho:∀g,openSum g s'=openSum g s:=fun g=>openSum_same g e.keeps e.W
 refine⟨L,b,by rw[e.answers];exact h1,⟨?_,?_,h2.idle,by rw[e.shape.2];exact h2.busy⟩,fun h0=>by rw[hs,hm];exact h3 h0⟩
 ·rw[hs,<-h2.sent]
  unfold told
  rw[ho,e.shape.2]
 ·rw[hm,<-h2.came]
  unfold toldC
  rw[ho,e.shape.2]
section
variable {g:TaskS->Nat} {N:Nat} {s:RunS}
theorem Waving.idle(h:Waving g N s):Idle s:=is_idle h.whole h.pos h.none
theorem Waving.turn(h:Waving g N s)(w:Nat):Same s (turnS s w):=by
 have e1:(workS s w).1=s:=by
  unfold workS
  split
  ·rfl
  ·split
   ·rfl
   ·rename_i x hx
    have:=h.idle.tasks x (List.mem_of_getElem? hx)
    rw[this]
    rfl
 have e2:(passS s w).1=s:=by
  unfold passS
  split
  ·rfl
  ·split
   ·rfl
   ·rw[if_pos (.inl h.mode)]
 unfold turnS
 rw[e1,e2]
 exact Same.tick s w
theorem Waving.next{s':RunS}{M:Nat}(h:Waving g N s)(e:Same s s')(hW:Whole M s')(h0:startE s'=0):Waving g M s':=⟨hW,h0,by rw[(Ctl.same e).as];exact h.none,by rw[e.mode];exact h.mode,h.pos⟩
theorem Waving.turns(h:Waving g N s)(hN:N+10<=90000000):∀k,k<=5->Same s ((List.range k).foldl turnS s)/\Waving g (N+2*k) ((List.range k).foldl turnS s):=by
 intro k
 induction k with
 |zero=>intro _;exact⟨.refl s,h⟩
 |succ k ih=>
  intro hk
  rw[List.range_succ,List.foldl_append,List.foldl_cons,List.foldl_nil]
  obtain⟨i1,i2⟩:=ih (by omega)
  have e:=i2.turn k
  refine⟨i1.trans e,i2.next e (((i2.whole.work (k:Int)).pass (by omega) (k:Int)).tick _) ?_⟩
  have e1:(workS ((List.range k).foldl turnS s) k).1=(List.range k).foldl turnS s:=by
   unfold workS
   split
   ·rfl
   ·split
    ·rfl
    ·rename_i x hx
     have:=i2.idle.tasks x (List.mem_of_getElem? hx)
     rw[this]
     rfl
  show startE (tickS (passS (workS ((List.range k).foldl turnS s) k).1 k).1 k).1=0
  rw[e1]
  exact tick_start (pass_start i2.start _) _
theorem total_67(s:RunS):total f67 s=2*total f6 s+total f7 s:=by
 have e:f67=fun m=>(f6 m+f6 m)+f7 m:=by
  funext m
  unfold f67 f6 f7
  by_cases h6:m.kind=6
  ·rw[if_pos h6,if_pos h6,if_neg (by omega)]
  ·rw[if_neg h6,if_neg h6]
   omega
 rw[e,total_add,total_add]
 omega
theorem wat_thing{c a b:Nat}{m:MsgS}(hw:WAt c s)(hc:Ctrl s)(hmode:s.mode≠1)(hn:left g s=0)(ht:∀x∈s.W,x.tasks=[])(h:Fine N s)(ha:a < s.W.length)(hb:b < s.W.length)(hg:(linkOf s a b).all[(linkOf s a b).came.toNat]?= some m)(hm:MsgOK s.ks (s.answers≠ []) N a b (linkOf s a b).came.toNat m)(hF:Fine N (setLink s a b {linkOf s a b with came:=(linkOf s a b).came+1})) :
  WAt c (cameS (setLink s a b {linkOf s a b with came:=(linkOf s a b).came+1}) m)/\total f67 (cameS (setLink s a b {linkOf s a b with came:=(linkOf s a b).came+1}) m) < total f67 s/\(cameS (setLink s a b {linkOf s a b with came:=(linkOf s a b).came+1}) m).W=s.W:=by
 have hk:=hm.kind
 have hu:Under s a b m:=⟨ha,hb,_,Nat.le_refl _,hg⟩
 have hwt:=fun f=>hu.weigh h.llen h.lrow f
 have h67:m.kind=6\/m.kind=7:=by
  have w5:=hwt tok
  have w1:=hwt (weigh (fun t=>2*g t) fun _=>1)
  have w2:=hwt askW
  have w0:=(hc.waves hmode).1
  unfold left at hn
  refine Decidable.by_contra (fun q=> ?_)
  by_cases q5:m.kind=5
  ·have:tok m=1:=if_pos q5
   omega
  ·by_cases c1:m.kind=1
   ·have:askW m=2:=if_pos c1
    omega
   ·by_cases c2:m.kind=2\/m.kind=3
    ·have:askW m=1:=by unfold askW;rw[if_neg c1,if_pos c2]
     omega
    ·have:weigh (fun t=>2*g t) (fun _=>1) m=1:=by unfold weigh;rw[if_neg (by omega),if_pos (by omega)]
     omega
 have st:=fun f=>total_step f h ha hb hg
 have hW1:(setLink s a b {linkOf s a b with came:=(linkOf s a b).came+1}).W=s.W:=rfl
 have hA1:(setLink s a b {linkOf s a b with came:=(linkOf s a b).came+1}).answers=s.answers:=rfl
 generalize setLink s a b {linkOf s a b with came:=(linkOf s a b).came+1}=S at *
 have hd0:=hm.dst
 have ejn:m.dst.toNat=b:=by rw[hd0];simp
 have hx:s.W[b]?= some (s.W[b]'hb):=List.getElem?_eq_getElem _
 have h2:=h.two
 have hlen:=h.len
 have hsS:∀s':RunS,s'.W=s.W->sumS s'=sumS s/\sumC s'=sumC s:=fun s' e=>⟨by unfold sumS;rw[e],by unfold sumC;rw[e]⟩
 by_cases h6:m.kind=6
 ·unfold cameS
  dsimp only
  rw[if_neg (by omega),if_neg (by omega),if_neg (by omega),if_neg (by omega),if_neg (by omega),if_pos h6,ejn,hW1,hx,Option.getD_some]
  have hxt:=ht _ (List.mem_of_getElem? hx)
  have hxo:=h.works _ (List.mem_of_getElem? hx)
  generalize s.W[b]'hb=x at *
  rw[hxt]
  have key:∀mm:MsgS,mm.src=m.dst->mm.dst=0->mm.kind=7->mm.sent=x.sent->mm.came=x.came->mm.idle=true->WAt c (sendS S mm)/\total f67 (sendS S mm) < total f67 s/\(sendS S mm).W=s.W:=fun mm q1 q2 q3 q4 q5 q6=>by
   have hi1:mm.src.toNat < S.W.length:=by rw[q1,hW1,ejn];exact hb
   have hj1:mm.dst.toNat < S.W.length:=by rw[q2,hW1];simp;omega
   have tf:=fun f=>total_form f hF.form mm hi1 hj1
   have vS:∀n:Int,fS {mm with no:=n}=x.sent.toNat:=fun n=>by
    show(if mm.kind=7 then mm.sent.toNat else 0)=_
    rw[if_pos q3,q4]
   have vC:∀n:Int,fC {mm with no:=n}=x.came.toNat:=fun n=>by
    show(if mm.kind=7 then mm.came.toNat else 0)=_
    rw[if_pos q3,q5]
   have vB:∀n:Int,fB {mm with no:=n}=0:=fun n=>by
    show(if mm.kind=7/\mm.idle=false then 1 else 0)=_
    rw[if_neg (by rw[q6];simp)]
   have vW:∀(k:Nat) (n:Int),fW k {mm with no:=n}=0:=fun k n=>by
    show(if mm.kind=6/\mm.dst=(k:Int)then 1 else 0)=_
    rw[if_neg (by omega)]
   have v6:∀n:Int,f67 {mm with no:=n}=1:=fun n=>by
    show(if mm.kind=6 then 2 else if mm.kind=7 then 1 else 0)=_
    rw[if_neg (by omega),if_pos q3]
   have hWs:(sendS S mm).W=s.W:=(sendS_W _ _ (by omega)).trans hW1
   have hAs:(sendS S mm).answers=s.answers:=(sendS_rest _ _).1.trans hA1
   have tS:total fS (sendS S mm)=total fS s+x.sent.toNat:=by
    have a1:=tf fS
    rw[vS]at a1
    have:=st fS
    have e:fS m=0:=if_neg (by omega)
    omega
   have tC:total fC (sendS S mm)=total fC s+x.came.toNat:=by
    have a1:=tf fC
    rw[vC]at a1
    have:=st fC
    have e:fC m=0:=if_neg (by omega)
    omega
   have tB:total fB (sendS S mm)=total fB s:=by
    have a1:=tf fB
    rw[vB]at a1
    have:=st fB
    have e:fB m=0:=if_neg (by omega)
    omega
   have tW:∀k,total (fW k) (sendS S mm)+fW k m=total (fW k) s:=fun k=>by
    have a1:=tf (fW k)
    rw[vW]at a1
    have:=st (fW k)
    omega
   have t6:total f67 (sendS S mm)+1=total f67 s:=by
    have a1:=tf f67
    rw[v6]at a1
    have:=st f67
    have e:f67 m=2:=if_pos h6
    omega
   clear tf
   generalize sendS S mm=R at *
   have oS:=fun gg:WorkerS->Int=>openSum_less gg hx hWs (by have:=tW b;have e:fW b m=1:=if_pos ⟨h6,hd0⟩;omega) (fun k hkb=>by have:=tW k;have e:fW k m=0:=if_neg (fun q=>hkb (by have:=q.2;omega));omega)
   refine⟨fun hc=> ?_,by omega,hWs⟩
   obtain⟨L,bb,e1,e2,e3⟩:=hw hc
   obtain⟨s1,s2⟩:=hsS _ hWs
   have o1:=oS (·.sent)
   have o2:=oS (·.came)
   have hn1:=hxo.sent
   have hn2:=hxo.came
   refine⟨L,bb,hAs.trans e1,⟨?_,?_,e2.idle,tB.trans e2.busy⟩,fun h0=>by rw[s1,s2];exact e3 h0⟩
   ·clear e3
    have e4:=e2.sent
    unfold told at e4 ⊢
    rw[s1,tS]
    omega
   ·clear e3
    have e4:=e2.came
    unfold toldC at e4 ⊢
    rw[s2,tC]
    omega
  exact key _ rfl rfl rfl rfl rfl rfl
 ·have h7:m.kind=7:=by omega
  unfold cameS notedS
  dsimp only
  rw[if_neg (by omega),if_neg (by omega),if_neg (by omega),if_neg (by omega),if_neg (by omega),if_neg h6,if_pos h7]
  have t6:total f67 S+1=total f67 s:=by
   have:=st f67
   have e:f67 m=1:=by unfold f67;rw[if_neg h6,if_pos h7]
   omega
  have hS1:=st fS
  have hC1:=st fC
  have eS:fS m=m.sent.toNat:=if_pos h7
  have eC:fC m=m.came.toNat:=if_pos h7
  have hB1:=st fB
  have hnum:=hm.nums
  have oS:∀gg:WorkerS->Int,openSum gg S=openSum gg s:=fun gg=>by
   unfold openSum
   rw[hW1]
   refine range_same (fun k _=> ?_)
   have:=st (fW k)
   have e:fW k m=0:=if_neg (fun q=>h6 q.1)
   rw[show total (fW k) S=total (fW k) s by omega]
  have hsplit:S.answers.getLast?= none\/∃y,S.answers.getLast?= some y:=by
   cases S.answers.getLast? with
   |none=>exact .inl rfl
   |some y=>exact .inr ⟨y,rfl⟩
  rcases hsplit with e|⟨y,hy⟩
  ·simp only[e]
   refine⟨fun hc=> ?_,by omega,hW1⟩
   obtain⟨L,bb,e1,-⟩:=hw hc
   rw[hA1,e1]at e
   simp at e
  ·simp only[hy]
   refine⟨fun hc=> ?_,?_,hW1⟩
   ·obtain⟨L,bb,e1,e2,e3⟩:=hw hc
    have hyb:y=bb/\S.answers.dropLast=L:=by
     rw[hA1,e1]at hy
     rw[hA1,e1]
     simp at hy
     exact⟨hy.symm,by simp⟩
    obtain⟨rfl,hdl⟩:=hyb
    have hmi:m.idle=true:=by
     cases q:m.idle with
     |true=>rfl
     |false=>
      have:fB m=1:=if_pos ⟨h7,q⟩
      have:=e2.busy
      omega
    have hsame:∀AA,sumS {S with answers:=AA}=sumS s/\sumC {S with answers:=AA}=sumC s:=fun AA=>hsS _ hW1
    refine⟨L,{many:=y.many+1,sent:=y.sent+m.sent,came:=y.came+m.came,idle:=y.idle&&m.idle},by rw[hdl],⟨?_,?_,?_,?_⟩,fun h0=>by rw[(hsame _).1,(hsame _).2];exact e3 h0⟩
    ·clear e3
     rw[(hsame _).1,<-e2.sent]
     have q1:total fS {S with answers:=S.answers.dropLast++ [{many:=y.many+1,sent:=y.sent+m.sent,came:=y.came+m.came,idle:=y.idle&&m.idle}]}=total fS S:=total_congr fS rfl
     have q2:openSum (·.sent) {S with answers:=S.answers.dropLast++ [{many:=y.many+1,sent:=y.sent+m.sent,came:=y.came+m.came,idle:=y.idle&&m.idle}]}=openSum (·.sent) S:=rfl
     unfold told
     rw[q1,q2,oS]
     dsimp only
     omega
    ·clear e3
     rw[(hsame _).2,<-e2.came]
     have q1:total fC {S with answers:=S.answers.dropLast++ [{many:=y.many+1,sent:=y.sent+m.sent,came:=y.came+m.came,idle:=y.idle&&m.idle}]}=total fC S:=total_congr fC rfl
     have q2:openSum (·.came) {S with answers:=S.answers.dropLast++ [{many:=y.many+1,sent:=y.sent+m.sent,came:=y.came+m.came,idle:=y.idle&&m.idle}]}=openSum (·.came) S:=rfl
     unfold toldC
     rw[q1,q2,oS]
     dsimp only
     omega
    ·show(y.idle&&m.idle)=true
     rw[e2.idle,hmi]
     rfl
    ·clear e3
     have:=e2.busy
     exact(total_congr fB (s':=S) rfl).trans (by omega)
   ·have:total f67 {S with answers:=S.answers.dropLast++ [{many:=y.many+1,sent:=y.sent+m.sent,came:=y.came+m.came,idle:=y.idle&&m.idle}]}=total f67 S:=total_congr f67 rfl
    omega
structure Coming67(g:TaskS->Nat)(c:Nat)(s0 s:RunS):Prop where
 wat:WAt c s
 ctrl:Ctrl s
 none:left g s=0
 mode:s.mode≠1
 tasks:∀x∈s.W,x.tasks=[]
 less:total f67 s < total f67 s0\/(total f67 s=total f67 s0/\∀a b,(linkOf s a b).came=(linkOf s0 a b).came)
theorem wat_deliver{c:Nat}{s0:RunS}(hp:Coming67 g c s0 s)(h:Fine N s)(hN:N+5<=90000000)(k:Int):Coming67 g c s0 (deliverS s k).1:=
 deliver_ind (P:=Coming67 g c s0) (fun s1 s2 e hp=>⟨hp.wat.same e,hp.ctrl.apart (.same e),by rw[(Ctl.same e).as];exact hp.none,by rw[e.mode];exact hp.mode,by rw[e.W];exact hp.tasks,by
   rw[e.shape.2]
   rcases hp.less with q|⟨q1,q2⟩
   ·exact .inl q
   ·exact .inr ⟨q1,fun a b=>by rw[(e.links a b).2];exact q2 a b⟩⟩)
  (fun N' s1 a b m hF _ ha hb hg hm hF2 hp=>by
   obtain⟨w1,w2,w3⟩:=wat_thing hp.wat hp.ctrl hp.mode hp.none hp.tasks hF ha hb hg hm hF2
   refine⟨w1,hp.ctrl.thing hF ha hb hg hm hF2,?_,?_,by rw[w3];exact hp.tasks,.inl ?_⟩
   ·have:=left_came g hF ha hb hg hm hF2
    have:=hp.none
    omega
   ·rw[(Stays.came _ m).mode]
    exact hp.mode
   ·rcases hp.less with q|⟨q1,-⟩<;>omega) hp h hN k
theorem wat_drain{c n:Nat}(h:Waving g N s)(hN:N+5*n<=90000000)(hw:WAt c s):Coming67 g c s (drainS n s):=
 (drain_ind (P:=Coming67 g c s) (fun _ _ _ _ hF hN _ _ _ hp=>wat_deliver hp hF hN 0) n N s h.whole.fine hN h.start ⟨hw,h.whole.ctrl,h.none,h.mode,h.idle.tasks,.inr ⟨rfl,fun _ _=>rfl⟩⟩).1
theorem open_of(h:WavesOK s)(hz:total f67 s=0):openB s=false:=by
 rw[total_67]at hz
 unfold openB
 rcases List.eq_nil_or_concat s.answers with e|⟨L,b,e⟩
 ·rw[e]
  rfl
 ·rw[List.concat_eq_append]at e
  have hm:=h.many L b e
  rw[e,List.getLast?_append,List.getLast?_singleton,Option.some_or]
  simp
  omega
theorem check_open(h:Waving g N s)(ho:openB s=true):(checkS s).1=s:=by
 unfold checkS
 split
 ·rfl
 ·rw[if_neg h.mode]
  unfold wavesS
  split
  ·rfl
  ·rw[if_pos (.inr ho)]
theorem check_closed(h:Waving g N s)(hN:N<=90000000){c:Nat}(hw:WAt c s)(ho:openB s=false):(checkS s).1.done=true\/(0 < c/\WAt (c - 1) (checkS s).1/\total f67 (checkS s).1<=8):=by
 have hF:=h.whole.fine
 have h5:=hF.five
 have h2:=hF.two
 have hlen:=hF.len
 have hx:s.W[0]?= some (s.W[0]'(by omega)):=List.getElem?_eq_getElem _
 have hxt:=h.idle.tasks _ (List.mem_of_getElem? hx)
 generalize s.W[0]'_=x at hx hxt
 have hbal:sumS s=sumC s:=by
  have e:=sums_bal s
  have e2:=h.whole.sure.even.eq
  have e3:total works s=0:=by
   have:=h.none
   unfold left at this
   have hle:total works s<=total (weigh (fun t=>2*g t) fun _=>1) s:=total_le (fun m=>by
    unfold works weigh
    by_cases q2:m.kind=2
    ·rw[if_pos (.inl q2),if_pos q2]
     show 1<=2*g m.t
     have:=h.pos m.t
     omega
    ·by_cases q4:m.kind=4
     ·rw[if_pos (.inr q4),if_neg q2,if_pos q4]
      exact Nat.le_refl _
     ·rw[if_neg (by omega)]
      exact Nat.zero_le _) s
   omega
  rw[e3]at e2
  omega
 have hB:=waves_begin h.whole.sure.waves hF (by omega) hx ho
 have hz:=hB.none
 have n6:∀m,f6 m=0->¬m.kind=6:=fun m e h6=>by unfold f6 at e;rw[if_pos h6]at e;cases e
 have n7:∀m,f7 m=0->¬m.kind=7:=fun m e h7=>by unfold f7 at e;rw[if_pos h7]at e;cases e
 have zS:total fS s=0:=zero_of hz.1 hz.2 fS (fun m _ e=>if_neg (n7 m e))
 have zC:total fC s=0:=zero_of hz.1 hz.2 fC (fun m _ e=>if_neg (n7 m e))
 have zW:∀k,total (fW k) s=0:=fun k=>zero_of hz.1 hz.2 (fW k) (fun m e _=>if_neg (fun h=>n6 m e h.1))
 have oz:∀g:WorkerS->Int,openSum g s=0:=fun g=>openSum_zero g zW
 have tells:∀b,OnTrack s b->b.sent=sumS s/\b.came=sumC s:=fun b hb=>by
  have e1:=hb.sent
  have e2:=hb.came
  unfold told at e1
  unfold toldC at e2
  rw[zS,oz]at e1
  rw[zC,oz]at e2
  exact⟨by omega,by omega⟩
 unfold checkS
 rw[if_neg (by rw[h.start];simp),if_neg h.mode]
 unfold wavesS
 rw[hx]
 dsimp only
 rw[if_neg (by rw[hxt,ho];simp)]
 split
 ·exact .inl rfl
 ·rename_i ht
  have hcp:0 < c:=by
   refine Decidable.by_contra (fun q=> ?_)
   obtain rfl:c=0:=by omega
   obtain⟨L,b,e1,e2,e3⟩:=hw (by omega)
   obtain⟨L',a,rfl,a1,a2⟩:=e3 rfl
   refine ht ?_
   obtain⟨b1,b2⟩:=tells b e2
   unfold twiceB
   have:s.answers.reverse=b :: a :: L'.reverse:=by rw[e1];simp
   rw[this]
   show alikeB a b=true
   unfold alikeB
   rw[a1,a2,b1,b2,hbal,e2.idle]
   simp
  refine .inr ⟨hcp,fun hc=> ?_,?_⟩
  ·have s1:sumS ((List.range' 1 (s.W.length - 1)).foldl (waveS (s.answers.length+1)) (notedS {s with answers:=s.answers++ [⟨0,0,0,true⟩]} x.sent x.came true))=sumS s:=by unfold sumS;rw[hB.W]
   have s2:sumC ((List.range' 1 (s.W.length - 1)).foldl (waveS (s.answers.length+1)) (notedS {s with answers:=s.answers++ [⟨0,0,0,true⟩]} x.sent x.came true))=sumC s:=by unfold sumC;rw[hB.W]
   refine⟨s.answers,_,hB.answers,⟨hB.told.trans s1.symm,hB.toldC.trans s2.symm,rfl,hB.busy⟩,fun h0=> ?_⟩
   obtain⟨L,b,e1,e2,-⟩:=hw (by omega)
   obtain⟨b1,b2⟩:=tells b e2
   exact⟨L,b,e1,by rw[s1];exact b1,by rw[s2];exact b2⟩
  ·dsimp only
   rw[total_67,hB.six,hB.seven]
   omega
theorem round_waves(h:Waving g N s)(hN:N+6000<=90000000)(hT:Tree s.ks g fun _=>1)(hS:Still s){c:Nat}(hc:c<=2)(hw:WAt c s):Ended (roundS s)\/(Waving g (N+5016) (roundS s)/\Still (roundS s)/\∃c',c'<=2/\WAt c' (roundS s)/\20*c'+total f67 (roundS s) < 20*c+total f67 s):=by
 have h5:=h.whole.fine.five
 have h2:=h.whole.fine.two
 have hlen:=h.whole.fine.len
 rcases round_facts h.whole hN h.start hT with q|q|⟨a1,a2,-,a4,a5,-,a7,a8⟩
 ·exact .inl (.inl q)
 ·exact .inl (.inr q)
 ·obtain⟨hsame,hST⟩:=h.turns (by omega) s.W.length (by omega)
  have hd:(checkS ((List.range s.W.length).foldl turnS s)).1.done=false:=by
   cases e:(checkS ((List.range s.W.length).foldl turnS s)).1.done with
   |false=>rfl
   |true=>
    exfalso
    have:roundS s=(checkS ((List.range s.W.length).foldl turnS s)).1:=drain_stop (done_stop e) 1000
    rw[this]at a1
    exact done_stop e a1
  have hn:left g (roundS s)=0:=by
   have:=a4.le
   have:=h.none
   omega
  have hmode:(roundS s).mode≠1:=by rw[(Stays.round s).mode];exact h.mode
  refine .inr ⟨⟨a2,a1,hn,hmode,h.pos⟩,a5 hS.way,?_⟩
  have hwS:=hw.same hsame
  have hWC:Waving g (N+2*s.W.length+6) (checkS ((List.range s.W.length).foldl turnS s)).1:=by
   refine⟨hST.whole.check (by omega),startE_zero.2 ⟨hd,by rw[check_over];exact(startE_zero.1 hST.start).2⟩,?_,by rw[(Stays.check _).mode];exact hST.mode,h.pos⟩
   rw[(Ctl.check hST.whole.fine (by omega)).as]
   exact hST.none
  by_cases hz:total f67 s=0
  ·rcases check_closed hST (by omega) hwS (open_of hST.whole.sure.waves (by rw[hsame.shape.2];exact hz))with q|⟨q1,q2,q3⟩
   ·rw[hd]at q
    cases q
   ·have hD:=wat_drain (n:=1000) hWC (by omega) q2
    refine⟨c - 1,by omega,hD.wat,?_⟩
    have:total f67 (roundS s)<=8:=by
     rcases hD.less with e|⟨e,-⟩
     ·exact Nat.le_trans (Nat.le_of_lt e) q3
     ·exact Nat.le_trans (Nat.le_of_eq e) q3
    omega
  ·have ho:openB ((List.range s.W.length).foldl turnS s)=true:=by
    cases e:openB ((List.range s.W.length).foldl turnS s)with
    |true=>rfl
    |false=>
     have hxx:((List.range s.W.length).foldl turnS s).W[0]?= some (((List.range s.W.length).foldl turnS s).W[0]'(by rw[hsame.W];omega)):=List.getElem?_eq_getElem _
     have:=(waves_begin hST.whole.sure.waves hST.whole.fine (by omega) hxx e).none
     rw[hsame.shape.2,hsame.shape.2]at this
     rw[total_67]at hz
     omega
   rw[check_open hST ho]at hWC
   have hD:=wat_drain (n:=1000) hWC (by omega) hwS
   have e:roundS s=drainS 1000 ((List.range s.W.length).foldl turnS s):=by
    unfold roundS turnsS
    rw[check_open hST ho]
   rw[<-e]at hD
   refine⟨c,hc,hD.wat,?_⟩
   rcases hD.less with q|⟨-,q⟩
   ·rw[hsame.shape.2]at q
    omega
   ·exfalso
    have hex:∃(i j k:Nat) (m:MsgS),i < s.W.length/\j < s.W.length/\(linkOf s i j).came<=k/\(linkOf s i j).all[k]?= some m:=by
     refine Classical.byContradiction (fun q=>hz ?_)
     exact sum_none (fun ls h1=>sum_none (fun l h2=>by
      obtain⟨i,j,hi,hj,rfl⟩:=links_in h.whole.fine.form h1 h2
      refine sum_none (fun m hm=>absurd ?_ q)
      obtain⟨k,hk⟩:=List.mem_iff_getElem?.1 hm
      rw[List.getElem?_drop]at hk
      have h0:=(h.whole.fine.links i j hi hj).came
      exact⟨i,j,_,m,hi,hj,by omega,hk⟩))
    obtain⟨i,j,k,m,hi,hj,hk,hm⟩:=hex
    have hlt:=(List.getElem?_eq_some_iff.1 hm).1
    have:=a7 hS i j (by omega)
    have:=q i j
    rw[(hsame.links i j).2]at this
    omega
theorem rounds_waves:∀(r N:Nat) (s:RunS),Waving g N s->N+5016*r+6000<=90000000->Tree s.ks g (fun _=>1)->Still s->(∃c,c<=2/\WAt c s/\20*c+total f67 s < r)->Ended (roundsS r s):=by
 intro r
 induction r with
 |zero=>intro N s _ _ _ _ hl;obtain⟨c,-,-,h⟩:=hl;exact absurd h (by omega)
 |succ r ih=>
  intro N s h hN hT hS hl
  obtain⟨c,hc,hw,hr⟩:=hl
  have e:roundsS (r+1) s=roundsS r (roundS s):=rfl
  rw[e]
  rcases round_waves h (by omega) hT hS hc hw with q|⟨q1,q2,c',q3,q4,q5⟩
  ·exact q.rounds r
  ·exact ih (N+5016) _ q1 (by omega) (by rw[(Stays.round s).ks];exact hT) q2 ⟨c',q3,q4,by omega⟩
end
theorem left_few{g:TaskS->Nat}{N:Nat}{s:RunS}(h:Steady N s)(hm:mass g (fun _=>1) s<=200):left g s<=410:=by
 have e:=left_mass g s
 have a1:tasksSum (fun t=>2*g t) s=2*tasksSum g s:=by
  have h1:∀l:List TaskS,(l.map fun t=>2*g t).sum=2*(l.map g).sum:=fun l=>by
   induction l with
   |nil=>rfl
   |cons a l ih=>rw[List.map_cons,List.sum_cons,List.map_cons,List.sum_cons,ih];omega
  unfold tasksSum
  induction s.W with
  |nil=>rfl
  |cons a l ih=>rw[List.map_cons,List.sum_cons,List.map_cons,List.sum_cons,ih,h1];omega
 have a2:total (weigh (fun t=>2*g t) fun _=>1) s<=total (fun m=>weigh g (fun _=>1) m+weigh g (fun _=>1) m) s:=total_le (fun m=>by
  unfold weigh
  split
  ·show 2*g m.t<=g m.t+g m.t
   omega
  ·split<;>omega) s
 rw[total_add]at a2
 have a3:total askW s<=total (fun m=>askQ m+askQ m) s:=total_le (fun m=>by
  unfold askW askQ
  by_cases c1:m.kind=1
  ·rw[if_pos c1,if_pos (.inl c1)];omega
  ·by_cases c2:m.kind=2\/m.kind=3
   ·rw[if_neg c1,if_pos c2,if_pos (.inr c2)];omega
   ·rw[if_neg c1,if_neg c2];omega) s
 rw[total_add]at a3
 have a4:=asks_few h
 have h5:=h.fine.five
 have hl:=h.fine.len
 have m1:mass g (fun _=>1) s=tasksSum g s+(s.values.map fun _=>1).sum+total (weigh g fun _=>1) s:=rfl
 have m2:mass (fun t=>2*g t) (fun _=>1) s=tasksSum (fun t=>2*g t) s+(s.values.map fun _=>1).sum+total (weigh (fun t=>2*g t) fun _=>1) s:=rfl
 rw[sum_ones]at m1 m2
 omega
theorem all_ends{N:Nat}{s:RunS}(hW:Whole N s)(hN:N<=20000000)(hm:mass (treeSum s.ks fun _=>1) (fun _=>1) s<=200):Ended (roundsS 1500 s):=by
 by_cases h0:startE s=0
 ·have hT:=tree_counts hW.fine.prog (fun _=>1)
  have hg:∀t,1<=treeSum s.ks (fun _=>1) t:=fun t=>tree_self s.ks (fun _=>1) t
  have hl:=left_few hW.steady hm
  generalize treeSum s.ks (fun _=>1)=g at *
  rcases round_facts hW (by omega) h0 hT with q|q|⟨a1,a2,a3,a4,-,-,-,a8⟩
  ·rw[show 1500=1+1499 from rfl,rounds_add]
   exact Ended.rounds (s:=roundsS 1 s) (.inl q) _
  ·rw[show 1500=1+1499 from rfl,rounds_add]
   exact Ended.rounds (s:=roundsS 1 s) (.inr q) _
  ·rcases round_facts (g:=g) a2 (by omega) a1 (by rw[a8];exact hT)with q|q|⟨c1,c2,-,c4,c5,-,-,c8⟩
   ·rw[show 1500=2+1498 from rfl,rounds_add]
    exact Ended.rounds (s:=roundsS 2 s) (.inl q) _
   ·rw[show 1500=2+1498 from rfl,rounds_add]
    exact Ended.rounds (s:=roundsS 2 s) (.inr q) _
   ·have hks:(roundS (roundS s)).ks=s.ks:=c8.trans a8
    have l1:=a4.le
    have l2:=c4.le
    obtain⟨k,hk,hr⟩:=rounds_idle hg 410 _ (roundS (roundS s)) c2 (by omega) c1 (by rw[hks];exact hT) (c5 a3) (by omega)
    have e:roundsS 1500 s=roundsS (1498 - k) (roundsS k (roundS (roundS s))):=by
     rw[show 1500=2+(k+(1498 - k)) by omega,rounds_add,rounds_add]
     rfl
    rw[e]
    rcases hr with q|⟨q1,⟨M,hM,q2⟩,q3,q4,q5,q6⟩
    ·exact q.rounds _
    ·generalize roundsS k (roundS (roundS s))=S at *
     have hTS:Tree S.ks g fun _=>1:=by rw[q5,hks];exact hT
     rw[show 1498 - k=60+(1438 - k) by omega,rounds_add]
     refine Ended.rounds ?_ _
     by_cases hmode:S.mode=1
     ·have hR:Ringing g M S:=⟨q2,q1,q6,hmode,hg⟩
      exact rounds_ring 60 M S hR (by omega) hTS q3 (loc_first hR)
     ·have hV:Waving g M S:=⟨q2,q1,q6,hmode,hg⟩
      refine rounds_waves 60 M S hV (by omega) hTS q3 ⟨2,by omega,fun h=>absurd h (by omega),?_⟩
      have a:=waves_few q2.sure.waves (fun a ha=>(q2.fine.ans a ha).many.1) q2.fine.five
      rw[total_67]
      omega
 ·refine Ended.rounds ?_ _
  cases hd:s.done with
  |true=>exact .inr hd
  |false=>
   cases ho:s.over with
   |true=>exact .inl ho
   |false=>exact absurd (startE_zero.2 ⟨hd,ho⟩) h0
def GameS(base N:Nat)(W:World)(G:Nat)(s:RunS)(over done:Bool):Prop:=
 ∃own B ka kc av dv did,GameAt base own W G B s ka kc av dv did over done/\Whole N s/\Play did s/\(allTasks s.ks s.kind s.arg).length<=200
theorem GameOK.some{base N:Nat}{W:World}{G:Nat}(h:GameOK base N W G):∃s over done,GameS base N W G s over done:=by
 obtain⟨own,B,s,ka,kc,av,dv,did,over,done,h1,h2,h3,h4⟩:=h.ok
 exact⟨s,over,done,own,B,ka,kc,av,dv,did,h1,h2,h3,h4⟩
section
variable {base N:Nat} {W:World} {G:Nat} {s:RunS} {over done:Bool}
theorem GameS.whole(h:GameS base N W G s over done):Whole N s:=by
 obtain⟨own,B,ka,kc,av,dv,did,h1,h2,h3,h4⟩:=h
 exact h2
theorem GameS.more(h:GameS base N W G s over done){N':Nat}(hN:N<=N'):GameS base N' W G s over done:=by
 obtain⟨own,B,ka,kc,av,dv,did,h1,h2,h3,h4⟩:=h
 exact⟨_,_,_,_,_,_,_,h1,h2.more hN,h3,h4⟩
theorem GameS.cells(h:GameS base N W G s over done):W.cell? ⟨G,1,none⟩=some (.int .i64 s.workers)/\W.cell? ⟨G,9,none⟩=some (.bool over)/\W.cell? ⟨G,10,none⟩=some (.bool done):=by
 obtain⟨own,B,ka,kc,av,dv,did,h1,h2,h3,h4⟩:=h
 exact⟨h1.box.cell (o:=1) rfl,h1.box.cell (o:=9) rfl,h1.box.cell (o:=10) rfl⟩
theorem GameS.mass(h:GameS base N W G s over done):mass (treeSum s.ks fun _=>1) (fun _=>1) s<=200:=by
 obtain⟨own,B,ka,kc,av,dv,did,h1,h2,h3,h4⟩:=h
 have e:∀{α:Type} (l:List α),(l.map fun _=>1).sum=l.length:=fun l=>by
  induction l with
  |nil=>rfl
  |cons a l ih=>rw[List.map_cons,List.sum_cons,ih,List.length_cons];omega
 rw[h3.all (fun _=>1)]
 unfold treeSum
 rw[e]
 exact h4
theorem GameS.moves(H:RunCalls)(h:GameS base N W G s over done)(hb:base<=W.heap.size)(hN:N+12<=80000000){m:MoveS}(hm:MoveFits m):Calls Tryz.prog 14 #[.pointer (some ⟨G,0,none⟩),.agg (moveV m)] W fun e w'=>e= .returned (.tuple #[])/\GameS base (N+6) w' G (moveS s m).1 (over||decide ((moveS s m).2=6)) (moveS s m).1.done/\Below base W w':=by
 obtain⟨own,B,ka,kc,av,dv,did,h1,h2,h3,h4⟩:=h
 have hf:=h3.few
 refine(kmoves_calls H m hm h1 h2 hN h3 hb (by omega)).mono ?_
 rintro e w' ⟨rfl,⟨own',dv',h6⟩,h7⟩
 refine⟨rfl,⟨_,_,_,_,_,_,_,h6,h2.move (by omega) m,h3.move h2.fine (by omega) m,?_⟩,h7⟩
 have e:=Stays.move s m
 rw[e.ks,e.kind,e.arg]
 exact h4
theorem GameS.told(H:RunCalls)(h:GameS base N W G s over done)(hb:base<=W.heap.size)(hN:N+6<=80000000):Calls Tryz.prog 16 #[.pointer (some ⟨G,0,none⟩)] W fun e w'=>e= .returned (.bool true)/\GameS base N w' G s over done/\Below base W w':=by
 obtain⟨own,B,ka,kc,av,dv,did,h1,h2,h3,h4⟩:=h
 refine(kannounced_calls H h1 h2 hN h3 hb h4).mono ?_
 rintro e w' ⟨rfl,own',h5,h6⟩
 exact⟨rfl,⟨_,_,_,_,_,_,_,h5,h2,h3,h4⟩,h6⟩
theorem GameS.call(h:GameS base N W G s over done)(hb:base<=W.heap.size)(S:RunS->RunS×Int){f:Nat}{ag:Option Addr->Array Value}
  (hc:∀F B,XOK F W B s->Whole N s->Calls Tryz.prog f (ag (some ⟨B,0,none⟩)) W (XGives F W B (S s)))
  (hst:Stays s (S s).1) (hW:Whole N s->Whole (N+6) (S s).1) (hP:∀did,Whole N s->Play did s->Play did (S s).1) :
  ∃B,W.cell? ⟨G,0,none⟩=some (.pointer (some ⟨B,0,none⟩))/\Calls Tryz.prog f (ag (some ⟨B,0,none⟩)) W fun e w'=>e= .returned (.int .i64 (S s).2)/\GameS base (N+6) w' G (S s).1 over done/\Below base W w':=by
 obtain⟨own,B,ka,kc,av,dv,did,h1,h2,h3,h4⟩:=h
 refine⟨B,h1.box.cell (o:=0) rfl,(hc _ B h1.run h2).mono ?_⟩
 rintro e w' ⟨rfl,hx,hk⟩
 refine⟨rfl,⟨_,_,_,_,_,_,_,h1.ran hb hk hx hst,hW h2,hP did h2 h3,?_⟩,hk.below hb (fun g e=>h1.new g (by omega))⟩
 rw[hst.ks,hst.kind,hst.arg]
 exact h4
theorem GameS.pass(H:RunCalls)(h:GameS base N W G s over done)(hb:base<=W.heap.size)(hN:N+6<=80000000)(i:Int):∃B,W.cell? ⟨G,0,none⟩=some (.pointer (some ⟨B,0,none⟩))/\Calls Tryz.prog 39 #[.pointer (some ⟨B,0,none⟩),.int .i64 i] W fun e w'=>e= .returned (.int .i64 (passS s i).2)/\GameS base (N+6) w' G (passS s i).1 over done/\Below base W w':=
 h.call (ag:=fun p=>#[.pointer p,.int .i64 i]) hb (fun s=>passS s i) (fun F B hx hw=>H.pass F B N s i W hx hw hN) (.pass s i) (fun hw=>(hw.pass (by omega) i).more (by omega)) (fun did hw hp=>hp.pass hw.fine i)
theorem GameS.tick(H:RunCalls)(h:GameS base N W G s over done)(hb:base<=W.heap.size)(hN:N+6<=80000000)(i:Int):∃B,W.cell? ⟨G,0,none⟩=some (.pointer (some ⟨B,0,none⟩))/\Calls Tryz.prog 40 #[.pointer (some ⟨B,0,none⟩),.int .i64 i] W fun e w'=>e= .returned (.int .i64 (tickS s i).2)/\GameS base (N+6) w' G (tickS s i).1 over done/\Below base W w':=
 h.call (ag:=fun p=>#[.pointer p,.int .i64 i]) hb (fun s=>tickS s i) (fun F B hx hw=>H.tick F B N s i W hx hw hN) (.tick s i) (fun hw=>(hw.tick i).more (by omega)) (fun did hw hp=>hp.tick i)
theorem GameS.deliver(H:RunCalls)(h:GameS base N W G s over done)(hb:base<=W.heap.size)(hN:N+6<=80000000)(i:Int):∃B,W.cell? ⟨G,0,none⟩=some (.pointer (some ⟨B,0,none⟩))/\Calls Tryz.prog 41 #[.pointer (some ⟨B,0,none⟩),.int .i64 i] W fun e w'=>e= .returned (.int .i64 (deliverS s i).2)/\GameS base (N+6) w' G (deliverS s i).1 over done/\Below base W w':=
 h.call (ag:=fun p=>#[.pointer p,.int .i64 i]) hb (fun s=>deliverS s i) (fun F B hx hw=>H.deliver F B N s i W hx hw hN) (.deliver s i) (fun hw=>(hw.deliver (by omega) i).more (by omega)) (fun did hw hp=>hp.deliver hw.fine (by omega) i)
end
theorem i64_few{z:Int}(h0: -1000<=z)(h1:z<=1000):isI64 z:=⟨by omega,by omega⟩
theorem move_few{k w:Int}(h0:0<=k)(h1:k<=1000)(h2:0<=w)(h3:w<=1000):MoveFits ⟨k,w,0,0⟩:=⟨i64_few (z:=k) (by omega) (by omega),i64_few (z:=w) (by omega) (by omega),i64_few (z:=0) (by omega) (by omega),i64_few (z:=0) (by omega) (by omega)⟩
theorem pickS_self{w n:Int}(h0:0<=w)(h1:w < n):pickS w n=w:=by
 unfold pickS
 rw[if_neg (by omega)]
 exact Int.emod_eq_of_lt h0 h1
theorem move_work{s:RunS}{w:Int}(h0:0<=w)(h1:w < s.workers):moveS s ⟨0,w,0,0⟩=workS s w:=by
 unfold moveS
 dsimp only
 rw[pickS_self h0 h1,if_pos (by decide)]
theorem move_check(s:RunS):moveS s ⟨11,0,0,0⟩=checkS s:=by
 unfold moveS
 dsimp only
 have e:pickS 11 12=11:=by decide
 rw[e,if_neg (by omega),if_neg (by omega),if_neg (by omega),if_neg (by omega),if_neg (by omega),if_neg (by omega)]
theorem deliver_err{s:RunS}{i:Int}(h:(deliverS s i).2≠0):(deliverS s i).1=s:=by
 unfold deliverS at h ⊢
 split at h
 ·rename_i hm
  rw[if_pos hm]
 ·dsimp only at h
  split at h
  ·split at h<;>exact absurd rfl h
  ·exact absurd rfl h
theorem drain_flags:∀(n:Nat) (s:RunS),(drainS n s).done=s.done/\(drainS n s).over=s.over
 |0,_=>⟨rfl,rfl⟩
 |n+1,s=>by
  unfold drainS
  split
  ·rw[(drain_flags n _).1,(drain_flags n _).2,deliverS_done,deliverS_over]
   exact⟨rfl,rfl⟩
  ·exact⟨rfl,rfl⟩
theorem check_tells{s:RunS}(h:(checkS s).1.over=true):(checkS s).2=6\/(checkS s).1.done=true:=by
 rw[check_over]at h
 have hs:=over_stop h
 unfold checkS
 rw[if_pos hs]
 by_cases hd:s.done=true
 ·exact .inr hd
 ·refine .inl ?_
  show startE s=6
  unfold startE
  simp[h,hd]
theorem turns_step(s:RunS)(k:Nat):(List.range (k+1)).foldl turnS s=turnS ((List.range k).foldl turnS s) k:=by rw[List.range_succ,List.foldl_append];rfl
theorem turns_workers(s:RunS):∀k:Nat,((List.range k).foldl turnS s).workers=s.workers
 |0=>rfl
 |k+1=>by
  rw[turns_step]
  unfold turnS
  rw[(Stays.tick _ _).workers,(Stays.pass _ _).workers,(Stays.work _ _).workers]
  exact turns_workers s k
def RoundGives(base N:Nat)(W:World)(G:Nat)(s:RunS)(e:Ending)(w':World):Prop:=e= .returned (.tuple #[])/\(∃over',GameS base N w' G (roundS s) over' (roundS s).done/\((roundS s).over=true->over'=true\/(roundS s).done=true))/\Below base W w'
set_option maxHeartbeats 8000000 in
set_option maxRecDepth 100000 in
theorem round_calls(H:RunCalls){base N:Nat}{W:World}{G:Nat}{s:RunS}{over done:Bool}(h:GameS base N W G s over done)(hb:base<=W.heap.size)(hN:N+6200<=80000000) :
  Calls Tryz.prog 17 #[.pointer (some ⟨G,0,none⟩)] W (RoundGives base (N+6100) W G s):=by
 have h2:=h.whole.fine.two
 have h5:=h.whole.fine.five
 have hlw:=h.whole.fine.len
 obtain⟨n,hn⟩:∃n,s.workers=n:=⟨_,rfl⟩
 obtain⟨q,hq⟩:∃q:Nat,s.W.length=q:=⟨_,rfl⟩
 have hqn:(q:Int)=n:=by omega
 rw[hn]at h2 h5
 have HQ:=hid_of hq
 have HN:=hid_of hn
 have HG:=hid_of h
 clear h hlw hn hq
 go_enter Tryz.func17,Tryz.ntmps17
 go_wp2_with fail
 go_loopw [2] (fun i wr=>∃(k:Nat) (over' done':Bool),k<=q/\i= .int .i64 k/\GameS base (N+18*k) wr G ((List.range k).foldl turnS s) over' done'/\Below base W wr) (fun i _=>q - (intOf i).toNat)
 case atStart=>exact⟨0,_,_,Nat.zero_le _,rfl,HG.out,Below.refl _ _⟩
 case round=>
  obtain⟨k,over',done',hk,rfl,hg,hbw⟩:=hrel
  have sw:=hbw.size
  obtain⟨S,hS⟩:∃S,(List.range k).foldl turnS s=S:=⟨_,rfl⟩
  have hSn:S.workers=n:=by rw[<-hS,turns_workers];exact HN.out
  have HS:=hid_of hS
  rw[hS]at hg
  have g1:wr.cell? ⟨G,1,none⟩=some (.int .i64 n):=by rw[<-hSn];exact hg.cells.1
  by_cases hlt:k < q
  ·have i1:(k:Int) < n:=by omega
   have hmv:=hg.moves H (by omega) (by omega) (m:=⟨0,k,0,0⟩) (move_few (by omega) (by omega) (by omega) (by omega))
   rw[move_work (by omega) (by rw[hSn];exact i1)]at hmv
   have HMV:Hid (Calls Tryz.prog 14 #[.pointer (some ⟨G,0,none⟩),.agg #[.int .i64 0,.int .i64 k,.int .i64 0,.int .i64 0]] wr fun e w'=>e= .returned (.tuple #[])/\GameS base (N+18*k+6) w' G (workS S k).1 (over'||decide ((workS S k).2=6)) (workS S k).1.done/\Below base wr w'):=hmv
   have HBW:=hid_of hbw
   clear hmv hg hbw hS
   go_wp2_with (first
    |(go_at_call 14;refine HMV.out.mono ?_;rintro e w5 ⟨rfl,hg5,hb5⟩
      have s5:=hb5.size
      obtain⟨B5,c5,hc5⟩:=hg5.pass H (by omega) (by omega) (k:Int)
      have HC5:=hid_of hc5
      have HB5:=hid_of hb5
      clear hg5 hb5 hc5)
    |(go_at_call 39;refine HC5.out.mono ?_;rintro e w6 ⟨rfl,hg6,hb6⟩
      have s6:=hb6.size
      obtain⟨B6,c6,hc6⟩:=hg6.tick H (by omega) (by omega) (k:Int)
      have HC6:=hid_of hc6
      have HB6:=hid_of hb6
      clear hg6 hb6 hc6)
    |(go_at_call 40;refine HC6.out.mono ?_;rintro e w7 ⟨rfl,hg7,hb7⟩
      have HG7:=hid_of hg7
      have HB7:=hid_of hb7
      clear hg7 hb7))
   go_roundw
   case rel=>
    have hg:=HG7.out.more (show N+18*k+6+6+6<=N+18*(k+1) by omega)
    have e:(List.range (k+1)).foldl turnS s=(tickS (passS (workS S k).1 k).1 k).1:=by rw[turns_step,HS.out];rfl
    rw[<-e]at hg
    exact⟨k+1,_,_,by omega,by go_num,hg,((HBW.out.trans HB5.out).trans HB6.out).trans HB7.out⟩
   case measure=>simp[intOf];omega
  ·have i1:¬(k:Int) < n:=by omega
   have ek:k=q:=by omega
   have hS':turnsS s=S:=by unfold turnsS;rw[HQ.out,<-ek];exact hS
   have hmv:=hg.moves H (by omega) (by omega) (m:=⟨11,0,0,0⟩) (move_few (by omega) (by omega) (by omega) (by omega))
   rw[move_check]at hmv
   have HMV:Hid (Calls Tryz.prog 14 #[.pointer (some ⟨G,0,none⟩),.agg #[.int .i64 11,.int .i64 0,.int .i64 0,.int .i64 0]] wr fun e w'=>e= .returned (.tuple #[])/\GameS base (N+18*k+6) w' G (checkS S).1 (over'||decide ((checkS S).2=6)) (checkS S).1.done/\Below base wr w'):=hmv
   have HR:Hid (roundS s=drainS 1000 (checkS S).1):=by show _=_;unfold roundS;rw[hS']
   have HOV:Hid ((checkS S).1.over=true->(over'||decide ((checkS S).2=6))=true\/(checkS S).1.done=true):=fun ho=>by
    rcases check_tells ho with e|e
    ·exact .inl (by rw[decide_eq_true e,Bool.or_true])
    ·exact .inr e
   have HBW:=hid_of hbw
   clear hmv hg hbw hS hS'
   generalize (over'||decide ((checkS S).2=6))=ov at *
   generalize (checkS S).1=T at *
   go_upto_region 7 with(go_at_call 14;refine HMV.out.mono ?_;rintro e w5 ⟨rfl,hg5,hb5⟩)
   have s5:=hb5.size
   have HB5:Hid (Below base W w5):=HBW.out.trans hb5
   have HG5:=hid_of hg5
   clear hg5 hb5 HMV HBW
   go_wp2_with fail
   go_loopw [3] (fun i wx=>∃(j:Nat) (U:RunS),j<=1000/\i= .int .i64 j/\GameS base (N+96+6*j) wx G U ov T.done/\drainS (1000 - j) U=drainS 1000 T/\Below base W wx) (fun i _=>1000 - (intOf i).toNat)
   case atStart=>exact⟨0,T,Nat.zero_le _,rfl,HG5.out.more (by omega),rfl,HB5.out⟩
   case round=>
    obtain⟨j,U,hj,rfl,hg,hdr,hbw⟩:=hrel
    have sx:=hbw.size
    by_cases hlt:j < 1000
    ·have i2:(j:Int) < 1000:=by omega
     obtain⟨B6,c6,hc6⟩:=hg.deliver H (by omega) (by omega) 0
     have HC6:=hid_of hc6
     have HBX:=hid_of hbw
     have HDR:=hid_of hdr
     obtain⟨er,her⟩:∃er,(deliverS U 0).2=er:=⟨_,rfl⟩
     have HER:=hid_of her
     rw[her]at HC6
     clear hg hc6 hbw hdr her
     by_cases h0:er=0
     ·subst h0
      go_wp2_with (go_at_call 41;refine HC6.out.mono ?_;rintro e w7 ⟨rfl,hg7,hb7⟩;have HG7:=hid_of hg7;have HB7:=hid_of hb7;clear hg7 hb7)
      go_roundw
      case rel=>
       refine⟨j+1,_,by omega,by go_num,HG7.out.more (by omega),?_,HBX.out.trans HB7.out⟩
       have e:=HDR.out
       rw[show 1000 - j=(1000 - (j+1))+1 by omega,drainS,if_pos HER.out]at e
       exact e
      case measure=>simp[intOf];omega
     ·have e0:(er==0)=false:=by rw[beq_eq_false_iff_ne];exact h0
      go_wp2_with (go_at_call 41;refine HC6.out.mono ?_;rintro e w7 ⟨rfl,hg7,hb7⟩;have HG7:=hid_of hg7;have HB7:=hid_of hb7;clear hg7 hb7)
      refine bodyPost_ret (results_none rfl _ _ _) rfl ?_
      have eU:roundS s=U:=by
       have e:=HDR.out
       rw[show 1000 - j=(1000 - (j+1))+1 by omega,drainS,if_neg (by rw[HER.out];exact h0)]at e
       rw[HR.out]
       exact e.symm
      have fl:=drain_flags 1000 T
      rw[<-HR.out]at fl
      have hg:=HG7.out
      rw[deliver_err (by rw[HER.out];exact h0),<-eU,<-fl.1]at hg
      exact⟨rfl,⟨_,hg.more (by omega),fun ho=>by rw[fl.1];exact HOV.out (by rw[<-fl.2];exact ho)⟩,HBX.out.trans HB7.out⟩
    ·have i2:¬(j:Int) < 1000:=by omega
     have ej:j=1000:=by omega
     have HBX:=hid_of hbw
     have HDR:=hid_of hdr
     have HGX:=hid_of hg
     clear hg hbw hdr
     go_wp2_with fail
     go_end0
     have eU:roundS s=U:=by
      have e:=HDR.out
      rw[ej]at e
      rw[HR.out]
      exact e.symm
     have fl:=drain_flags 1000 T
     rw[<-HR.out]at fl
     have hg:=HGX.out
     rw[<-eU,<-fl.1]at hg
     exact⟨rfl,⟨_,hg.more (by omega),fun ho=>by rw[fl.1];exact HOV.out (by rw[<-fl.2];exact ho)⟩,HBX.out⟩
set_option maxHeartbeats 8000000 in
set_option maxRecDepth 100000 in
theorem ends_calls(H:RunCalls)(wk rm md kind arg:Int)(ra:Option Addr)(rl rc:Nat)(a:Option Addr)(cap:Nat)(l:List MoveS)(w:World)(f1:isI64 wk)(f2:isI64 rm)(f3:isI64 md)(f4:isI64 kind)(f5:isI64 arg)(hl:rl<=9223372036854775806)(hraw:RawAt w ra rl)(hm:MovesAt w a l)(hn:l.length<=1000000) :
  Calls Tryz.prog 9 #[.agg (caseV wk rm md ra rl rc kind arg),.slice a l.length cap] w fun e w'=>e= .returned (.bool true)/\Below w.heap.size w w':=by
 obtain⟨V,hV⟩:∃V,w.alloc (Obj.cells (caseV wk rm md ra rl rc kind arg) 27)=V:=⟨_,rfl⟩
 have hbV:Below w.heap.size w V:=by rw[<-hV];exact(Below.refl _ _).alloc (Nat.le_refl _) _
 have bM:BoxAt V w.heap.size 27 (caseV wk rm md ra rl rc kind arg):=by rw[<-hV];exact BoxAt.new w _ _
 have HBG:=hid_of (begun_ok H wk rm md kind arg ra rl rc V f1 f2 f3 f4 f5 hl (fun j hj=>by
  obtain⟨b,o,z,h1,h2,h3,h4⟩:=hraw j hj
  exact⟨b,o,z,h1,Nat.lt_of_lt_of_le h2 hbV.size,(hbV.cell (p:=⟨b,_,none⟩) h2).trans h3,h4⟩))
 have c0:V.cell? ⟨w.heap.size,0,none⟩=some (.int .i64 wk):=bM.cell (o:=0) rfl
 have c1:V.cell? ⟨w.heap.size,1,none⟩=some (.int .i64 rm):=bM.cell (o:=1) rfl
 have c2:V.cell? ⟨w.heap.size,2,none⟩=some (.int .i64 md):=bM.cell (o:=2) rfl
 have c3:V.cell? ⟨w.heap.size,3,none⟩=some (.slice ra rl rc):=bM.cell (o:=3) rfl
 have c4:V.cell? ⟨w.heap.size,4,none⟩=some (.int .i64 kind):=bM.cell (o:=4) rfl
 have c5:V.cell? ⟨w.heap.size,5,none⟩=some (.int .i64 arg):=bM.cell (o:=5) rfl
 have HM:=hid_of hm
 have HBV:=hid_of hbV
 clear hbV bM hm hraw
 go_enter Tryz.func9,Tryz.ntmps9
 go_upto_region 4 with(go_at_call 13;refine HBG.out.mono ?_;rintro e w1 ⟨G,rfl,hG,hb1⟩)
 have HB1:Hid (Below w.heap.size w w1):=HBV.out.trans (hb1.mono HBV.out.size)
 have sV:=HBV.out.size
 have s1:=hb1.size
 have HG:=hid_of hG
 clear hG hb1 c0 c1 c2 c3 c4 c5
 go_wp2_with fail
 go_loopw [6] (fun i wr=>∃k:Nat,k<=l.length/\i= .int .i64 k/\GameOK V.heap.size (6*k) wr G/\Below w.heap.size w wr/\V.heap.size<=wr.heap.size) (fun i _=>l.length - (intOf i).toNat)
 case atStart=>exact⟨0,Nat.zero_le _,rfl,HG.out,HB1.out,s1⟩
 case round=>
  obtain⟨k,hk,rfl,hg,hbw,hsz⟩:=hrel
  by_cases hlt:k < l.length
  ·obtain⟨m,hx⟩:∃m,l[k]?= some m:=⟨_,List.getElem?_eq_getElem hlt⟩
   obtain⟨hmf,b,o,rfl,hbl,hc⟩:=HM.out k m hx
   have d0:wr.cell? ⟨b,o+k*4,none⟩=some (.int .i64 m.k):=(hbw.cell (p:=⟨b,o+k*4,none⟩) hbl).trans (hc 0 _ rfl)
   have d1:wr.cell? ⟨b,o+k*4+1,none⟩=some (.int .i64 m.w):=(hbw.cell (p:=⟨b,o+k*4+1,none⟩) hbl).trans (hc 1 _ rfl)
   have d2:wr.cell? ⟨b,o+k*4+2,none⟩=some (.int .i64 m.v):=(hbw.cell (p:=⟨b,o+k*4+2,none⟩) hbl).trans (hc 2 _ rfl)
   have d3:wr.cell? ⟨b,o+k*4+3,none⟩=some (.int .i64 m.i):=(hbw.cell (p:=⟨b,o+k*4+3,none⟩) hbl).trans (hc 3 _ rfl)
   have i1:(0:Int)<=(k:Int):=by omega
   have i2:(k:Int) < (l.length:Int):=by omega
   have HMV:=hid_of (hg.moves H hsz (by omega) hmf)
   have HBW:=hid_of hbw
   clear hc hx hg hbw hmf
   go_wp2_with (go_at_call 14;refine HMV.out.mono ?_;rintro e w5 ⟨rfl,hg5,hb5⟩;have s5:=hb5.size;have HG5:=hid_of hg5;have HB5:=hid_of hb5;clear hg5 hb5)
   go_roundw
   case rel=>exact⟨k+1,by omega,by go_num,by rw[show 6*(k+1)=6*k+6 by omega];exact HG5.out,HBW.out.trans (HB5.out.mono sV),by omega⟩
   case measure=>simp[intOf];omega
  ·obtain⟨s0,over0,done0,hg0⟩:=hg.some
   have HG0:=hid_of hg0
   have HB0:=hid_of hbw
   have hE:=all_ends hg0.whole (by omega) hg0.mass
   have HE:=hid_of hE
   clear hg hg0 hbw hE HM
   go_wp2_with fail
   go_loopw [7] (fun i wx=>∃(j:Nat) (over done:Bool),j<=1500/\i= .int .i64 j/\GameS V.heap.size (6000000+6100*j) wx G (roundsS j s0) over done/\(0 < j->done=(roundsS j s0).done/\((roundsS j s0).over=true->over=true\/(roundsS j s0).done=true))/\Below w.heap.size w wx/\V.heap.size<=wx.heap.size) (fun i _=>1500 - (intOf i).toNat)
   case atStart=>exact⟨0,over0,done0,Nat.zero_le _,rfl,HG0.out.more (by omega),fun h=>absurd h (by omega),HB0.out,hsz⟩
   case round=>
    obtain⟨j,over,done,hj,rfl,hg,hfl,hbw,hsz⟩:=hrel
    obtain⟨-,c9,c10⟩:=hg.cells
    have hend:¬j < 1500->over=true\/done=true:=fun hq=>by
     have ej:j=1500:=by omega
     obtain⟨f1,f2⟩:=hfl (by omega)
     rw[ej]at f1 f2
     rcases HE.out with e|e
     ·rcases f2 e with q|q
      ·exact .inl q
      ·exact .inr (f1.trans q)
     ·exact .inr (f1.trans e)
    by_cases hgo:j < 1500/\over=false/\done=false
    ·obtain⟨hlt,rfl,rfl⟩:=hgo
     have i2:(j:Int) < 1500:=by omega
     have HRC:=hid_of (round_calls H hg hsz (by omega))
     have HBX:=hid_of hbw
     clear hg hbw hfl hend
     go_wp2_with (go_at_call 17;refine HRC.out.mono ?_;rintro e w6 ⟨rfl,⟨ov6,hg6,hf6⟩,hb6⟩;have s6:=hb6.size;have HG6:=hid_of hg6;have HF6:=hid_of hf6;have HB6:=hid_of hb6;clear hg6 hf6 hb6)
     go_roundw
     case rel=>
      have e:roundsS (j+1) s0=roundS (roundsS j s0):=by rw[rounds_add];rfl
      have hg:=HG6.out.more (show 6000000+6100*j+6100<=6000000+6100*(j+1) by omega)
      have hf:=HF6.out
      rw[<-e]at hg hf
      exact⟨j+1,_,_,by omega,by go_num,hg,fun _=>⟨rfl,hf⟩,HBX.out.trans (HB6.out.mono sV),by omega⟩
     case measure=>simp[intOf];omega
    ·have hfin:over=true\/(over=false/\done=true):=by
      cases over
      ·cases done
       ·by_cases hlt:j < 1500
        ·exact absurd ⟨hlt,rfl,rfl⟩ hgo
        ·rcases hend hlt with q|q<;>cases q
       ·exact .inr ⟨rfl,rfl⟩
      ·exact .inl rfl
     have HTL:=hid_of (hg.told H hsz (by omega))
     have HBX:=hid_of hbw
     clear hg hbw hfl hend hgo
     cases hb:decide ((j:Int) < 1500)
     all_goals
      rcases hfin with rfl|⟨rfl,rfl⟩
     all_goals
      go_wp2_with (go_at_call 16;refine HTL.out.mono ?_;rintro e w6 ⟨rfl,hg6,hb6⟩;obtain⟨-,y9,y10⟩:=hg6.cells;have HB6:=hid_of hb6;clear hg6 hb6)
      go_ret
      exact⟨rfl,HBX.out.trans (HB6.out.mono sV)⟩
end Go.Proofs.YtfanaanofjhlkaaGreatDoor
