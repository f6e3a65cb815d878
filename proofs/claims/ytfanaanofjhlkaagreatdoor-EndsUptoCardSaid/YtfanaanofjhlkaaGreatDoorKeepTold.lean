import Derived.Test.YtfanaanofjhlkaaGreatDoorTurns3
import Derived.Test.YtfanaanofjhlkaaGreatDoorCalm
import Derived.Test.YtfanaanofjhlkaaGreatDoorStillB
import Derived.Test.YtfanaanofjhlkaaGreatDoorXSteal2
import Derived.Test.YtfanaanofjhlkaaGreatDoorPickN
import Derived.Test.YtfanaanofjhlkaaGreatDoorRaw
import Derived.Test.YtfanaanofjhlkaaGreatDoorRefWork
import Derived.BigQuiet
namespace Go.Proofs.YtfanaanofjhlkaaGreatDoor
open Go Go.RowKit
theorem links_in{s:RunS}(h:Form s){ls:List LinkS}{l:LinkS}(h1:ls∈s.links)(h2:l∈ls):∃i j,i < s.W.length/\j < s.W.length/\l=linkOf s i j:=by
 obtain⟨i,hi⟩:=List.mem_iff_getElem?.1 h1
 obtain⟨j,hj⟩:=List.mem_iff_getElem?.1 h2
 have a:=(List.getElem?_eq_some_iff.1 hi).1
 have b:=(List.getElem?_eq_some_iff.1 hj).1
 rw[h.llen]at a
 rw[h.lrow ls h1]at b
 exact⟨i,j,a,b,by unfold linkOf;rw[hi,Option.getD_some,hj,Option.getD_some]⟩
theorem sum_le_on{α:Type}{f g:α->Nat}:∀{l:List α},(∀a∈l,f a<=g a)->(l.map f).sum<=(l.map g).sum
 |[],_=>Nat.le_refl _
 |a :: l,h=>by
  rw[List.map_cons,List.map_cons,List.sum_cons,List.sum_cons]
  exact Nat.add_le_add (h a (List.mem_cons_self ..)) (sum_le_on (fun b hb=>h b (List.mem_cons_of_mem _ hb)))
theorem total_le_on{f g:MsgS->Nat}{s:RunS}(hf:Form s)(h:∀i j,i < s.W.length->j < s.W.length->∀m∈(linkOf s i j).all,f m<=g m):total f s<=total g s:=
 sum_le_on (fun ls h1=>sum_le_on (fun l h2=>by
  obtain⟨i,j,hi,hj,rfl⟩:=links_in hf h1 h2
  exact sum_le_on (fun m hm=>h i j hi hj m (List.mem_of_mem_drop hm))))
theorem sum_add{α:Type}(f g:α->Nat):∀l:List α,(l.map fun a=>f a+g a).sum=(l.map f).sum+(l.map g).sum
 |[]=>rfl
 |a :: l=>by simp only[List.map_cons,List.sum_cons,sum_add f g l];omega
theorem total_add(f g:MsgS->Nat)(s:RunS):total (fun m=>f m+g m) s=total f s+total g s:=by
 unfold total
 have e:∀l:LinkS,linkSum (fun m=>f m+g m) l=linkSum f l+linkSum g l:=fun l=>sum_add f g _
 have e2:∀ls:List LinkS,(ls.map (linkSum fun m=>f m+g m)).sum=(ls.map (linkSum f)).sum+(ls.map (linkSum g)).sum:=fun ls=>by
  rw[<-sum_add]
  exact congrArg List.sum (List.map_congr_left (fun l _=>e l))
 rw[<-sum_add]
 exact congrArg List.sum (List.map_congr_left (fun ls _=>e2 ls))
theorem total_zero(s:RunS):total (fun _=>0) s=0:=sum_none (fun _ _=>sum_none (fun _ _=>sum_zero _))
theorem total_each(F:Nat->MsgS->Nat)(s:RunS):∀n:Nat,total (fun m=>((List.range n).map fun k=>F k m).sum) s=((List.range n).map fun k=>total (F k) s).sum
 |0=>total_zero s
 |n+1=>by
  have e:(fun m=>((List.range (n+1)).map fun k=>F k m).sum)=(fun m=>((List.range n).map fun k=>F k m).sum+F n m):=by
   funext m
   rw[List.range_succ,List.map_append,List.sum_append]
   simp
  rw[e,total_add,total_each F s n,List.range_succ,List.map_append,List.sum_append]
  simp
theorem sum_bound:∀(n c:Nat) (g:Nat->Nat),(∀k,k < n->g k<=c)->((List.range n).map g).sum<=n*c:=by
 intro n c g
 induction n with
 |zero=>intro _;simp
 |succ n ih=>
  intro h
  rw[List.range_succ,List.map_append,List.sum_append,Nat.succ_mul]
  have:=ih (fun k hk=>h k (by omega))
  have:=h n (by omega)
  simp
  omega
theorem range_mem(g:Nat->Nat){n i:Nat}(h:i < n):g i<=((List.range n).map g).sum:=mem_sum g _ i (List.mem_range.2 h)
def askQ(m:MsgS):Nat:=if m.kind=1\/m.kind=2\/m.kind=3 then 1 else 0
theorem asks_few{N:Nat}{s:RunS}(h:Steady N s):total askQ s<=s.W.length:=by
 have h1:total askQ s<=total (fun m=>((List.range s.W.length).map fun k=>asks k m).sum) s:=total_le_on h.fine.form (fun i j hi hj m hm=>by
  obtain⟨n,hn⟩:=List.mem_iff_getElem?.1 hm
  have ho:=(h.fine.links i j hi hj).msgs n m hn
  have a:=range_mem (fun k=>asks k m) hi
  have b:=range_mem (fun k=>asks k m) hj
  unfold askQ
  split
  ·rename_i q
   rcases q with q|q|q
   ·have:asks i m=1:=if_pos (.inl ⟨q,ho.src⟩)
    omega
   ·have:asks j m=1:=if_pos (.inr ⟨.inl q,ho.dst⟩)
    omega
   ·have:asks j m=1:=if_pos (.inr ⟨.inr q,ho.dst⟩)
    omega
  ·omega)
 rw[total_each]at h1
 have h2:=sum_bound s.W.length 1 (fun k=>total (asks k) s) (fun k hk=>by
  have:=h.pol.one k _ (List.getElem?_eq_getElem hk)
  split at this<;>omega)
 omega
theorem waves_few{s:RunS}(h:WavesOK s)(hb:∀a∈s.answers,0<=a.many)(h5:s.workers<=5):total f6 s+total f7 s<=5:=by
 cases e:s.answers.reverse with
 |nil=>
  have:=h.none (by simpa using e)
  omega
 |cons b L=>
  have e2:s.answers=L.reverse++ [b]:=by
   have:=congrArg List.reverse e
   simpa using this
  have:=h.many _ _ e2
  have:=hb b (by rw[e2];simp)
  omega
theorem ask_few{N:Nat}{s:RunS}(h:Steady N s)(hw:WavesOK s):total askN s<=10:=by
 have h1:total askN s<=total (fun m=>askQ m+f6 m) s:=total_le (fun m=>by
  unfold askN askQ f6
  split
  ·rename_i q
   rcases q with q|q
   ·rw[if_pos (.inl q)];omega
   ·rw[if_pos q];omega
  ·omega) s
 rw[total_add]at h1
 have h2:=asks_few h
 have h3:=waves_few hw (fun a ha=>(h.fine.ans a ha).many.1) h.fine.five
 have:=h.fine.five
 have:=h.fine.len
 omega
def askW(m:MsgS):Nat:=if m.kind=1 then 2 else if m.kind=2\/m.kind=3 then 1 else 0
def left(g:TaskS->Nat)(s:RunS):Nat:=tasksSum (fun t=>2*g t) s+total (weigh (fun t=>2*g t) fun _=>1) s+total askW s
theorem left_mass(g:TaskS->Nat)(s:RunS):left g s+s.values.length=mass (fun t=>2*g t) (fun _=>1) s+total askW s:=by
 unfold left mass
 rw[sum_ones]
 omega
theorem cameS_values(s:RunS)(m:MsgS):(cameS s m).values.length=s.values.length+if m.kind=4 then 1 else 0:=by
 have hs:∀(s:RunS) (m:MsgS),(sendS s m).values=s.values:=fun s m=>by
  unfold sendS wayS
  dsimp only
  split<;>split<;>rfl
 unfold cameS notedS
 dsimp only
 by_cases h4:m.kind=4
 ·rw[if_neg (by omega),if_neg (by omega),if_neg (by omega),if_pos h4,if_pos h4]
  exact putS_length _ _
 ·rw[if_neg h4]
  repeat' split
  all_goals first|rfl|rw[hs];rfl|exact absurd (by assumption) h4
theorem left_came(g:TaskS->Nat){N:Nat}{s:RunS}{i j:Nat}{m:MsgS}(h:Fine N s)(hi:i < s.W.length)(hj:j < s.W.length)(hg:(linkOf s i j).all[(linkOf s i j).came.toNat]?= some m)(hm:MsgOK s.ks (s.answers≠ []) N i j (linkOf s i j).came.toNat m)(hF:Fine N (setLink s i j {linkOf s i j with came:=(linkOf s i j).came+1})):left g (cameS (setLink s i j {linkOf s i j with came:=(linkOf s i j).came+1}) m)+(if m.kind<=4 then 1 else 0)=left g s:=by
 have hk:=hm.kind
 have t1:=total_step (weigh (fun t=>2*g t) fun _=>1) h hi hj hg
 have t2:=total_step askW h hi hj hg
 have m1:=mass_came (g:=fun t=>2*g t) (o:=fun _=>1) hF (i:=i) (j:=j) (n:=(linkOf s i j).came.toNat) (m:=m) hi hj hm
 have e1:=left_mass g s
 have e2:=left_mass g (cameS (setLink s i j {linkOf s i j with came:=(linkOf s i j).came+1}) m)
 have v1:=cameS_values (setLink s i j {linkOf s i j with came:=(linkOf s i j).came+1}) m
 have ev:(setLink s i j {linkOf s i j with came:=(linkOf s i j).came+1}).values=s.values:=rfl
 have em:mass (fun t=>2*g t) (fun _=>1) s=tasksSum (fun t=>2*g t) s+(s.values.map fun _=>1).sum+total (weigh (fun t=>2*g t) fun _=>1) s:=rfl
 have eS:mass (fun t=>2*g t) (fun _=>1) (setLink s i j {linkOf s i j with came:=(linkOf s i j).came+1})=tasksSum (fun t=>2*g t) s+(s.values.map fun _=>1).sum+total (weigh (fun t=>2*g t) fun _=>1) (setLink s i j {linkOf s i j with came:=(linkOf s i j).came+1}):=rfl
 rw[ev]at v1
 have eW:(setLink s i j {linkOf s i j with came:=(linkOf s i j).came+1}).W=s.W:=rfl
 generalize setLink s i j {linkOf s i j with came:=(linkOf s i j).came+1}=S at *
 have hq:total askW (cameS S m)=total askW S+if m.kind=1 then 1 else 0:=by
  rcases cameS_cases S m (fun h=>by rw[hm.src,hm.wave h];rfl)with⟨h0,hl,-,-⟩|⟨h1,s1,m',e1,e2,e3,e4,e5,e6,e7⟩
  ·have hk1:m.kind≠1:=fun e=>by rw[askN,if_pos (.inl e)]at h0;cases h0
   rw[if_neg hk1,total_congr askW hl]
   rfl
  ·have hfo:Form s1:=hF.form.rework e1 e3
   have hsl:i < s1.W.length/\j < s1.W.length:=by
    rw[e3,eW]
    exact⟨hi,hj⟩
   rw[e7,total_form askW hfo m' (by rw[e4,hm.dst];simpa using hsl.2) (by rw[e5,hm.src];simpa using hsl.1),total_congr askW e1]
   congr 1
   unfold askW
   dsimp only
   rcases e6 with⟨q1,q2⟩|⟨q1,q2⟩
   ·rw[if_neg (by omega),if_pos q2,if_pos q1]
   ·rw[if_neg (by omega),if_neg (by omega),if_neg (by omega)]
 have w1:askW m+(if m.kind=4 then 1 else 0)=(if m.kind=1 then 1 else 0)+(if m.kind<=4 then 1 else 0):=by
  unfold askW
  by_cases c1:m.kind=1
  ·simp[c1]
  ·by_cases c2:m.kind=2\/m.kind=3
   ·rw[if_neg c1,if_pos c2,if_neg (by omega),if_neg c1,if_pos (by omega)]
   ·rw[if_neg c1,if_neg c2]
    by_cases c4:m.kind=4
    ·simp[c4]
    ·rw[if_neg c4,if_neg (by omega),if_neg (by omega)]
 omega
structure Ctl(s s':RunS):Prop where
 tasks:∀g,tasksSum g s'=tasksSum g s
 vals:s'.values=s.values
 tot:∀f:MsgS->Nat,(∀m,m.kind=5\/m.kind=6->f m=0)->total f s'=total f s
theorem Ctl.refl(s:RunS):Ctl s s:=⟨fun _=>rfl,rfl,fun _ _=>rfl⟩
theorem Ctl.trans{a b c:RunS}(h:Ctl a b)(k:Ctl b c):Ctl a c:=⟨fun g=>(k.tasks g).trans (h.tasks g),k.vals.trans h.vals,fun f hf=>(k.tot f hf).trans (h.tot f hf)⟩
theorem Ctl.send{s:RunS}(h:Form s){m:MsgS}(hk:m.kind=5\/m.kind=6)(hi:m.src.toNat < s.W.length)(hj:m.dst.toNat < s.W.length):Ctl s (sendS s m):=
 ⟨fun g=>(sendS_tasks g s m hi).1,by unfold sendS wayS;dsimp only;split<;>split<;>rfl,fun f hf=>by rw[total_form f h m hi hj,hf {m with no:=(linkOf s m.src.toNat m.dst.toNat).all.length+1} hk];rfl⟩
theorem Ctl.rework{s:RunS}{i:Nat}{x x':WorkerS}(hx:s.W[i]?= some x)(ht:x'.tasks=x.tasks):Ctl s {s with W:=s.W.set i x'}:=
 ⟨fun g=>by have:=tasksSum_set g (x':=x') hx;rw[ht]at this;omega,rfl,fun f _=>total_congr f rfl⟩
theorem Ctl.same{s s':RunS}(e:Same s s'):Ctl s s':=⟨fun g=>tasksSum_congr g e.W,e.values,fun f _=>e.shape.2 f⟩
theorem Ctl.as{s s':RunS}(h:Ctl s s')(g:TaskS->Nat):left g s'=left g s:=by
 unfold left
 rw[h.tasks,h.tot _ (fun m hm=>by unfold weigh;rw[if_neg (by omega),if_neg (by omega)]),h.tot _ (fun m hm=>by unfold askW;rw[if_neg (by omega),if_neg (by omega)])]
theorem Ctl.waves{n:Int}:∀(L:List Nat) (N:Nat) (s:RunS),Fine N s->s.answers≠ []->(∀k∈L,1<=k/\k < s.W.length)->Ctl s (L.foldl (waveS n) s):=by
 intro L
 induction L with
 |nil=>intro N s _ _ _;exact .refl s
 |cons k r ih=>
  intro N s h ha hL
  have hk:=hL k (List.mem_cons_self ..)
  obtain⟨e1,e2,-⟩:=sendS_rest s {msg0 with src:=0,dst:=k,kind:=6,round:=n}
  have hs:Fine (N+1) (waveS n s k):=h.waves [k] _ _ ha (fun a b=>by rw[List.mem_singleton.1 b];exact hk)
  have h1:Ctl s (waveS n s k):=Ctl.send h.form (m:={msg0 with src:=0,dst:=k,kind:=6,round:=n}) (.inr rfl) (by show(0:Int).toNat < _;simp;omega) (by show(k:Int).toNat < _;simp;omega)
  rw[List.foldl_cons]
  exact h1.trans (ih (N+1) (waveS n s k) hs (by show(sendS _ _).answers≠ [];rw[e1];exact ha) (fun a b=>by show 1<=a/\a < (sendS _ _).W.length;rw[e2];exact hL a (List.mem_cons_of_mem _ b)))
section
variable {N:Nat} {s:RunS}
theorem Ctl.tick(s:RunS)(i:Int):Ctl s (tickS s i).1:= .same (Same.tick s i)
theorem Ctl.pass(h:Fine N s)(i:Int):Ctl s (passS s i).1:=by
 unfold passS
 split
 ·exact .refl s
 ·rename_i hw
  obtain⟨hlo,hlt⟩:=workerE_range hw
  obtain⟨hil,hie⟩:=h.nat hlo hlt
  split
  ·exact .refl s
  ·rename_i x hx
   split
   ·exact .refl s
   ·dsimp only
    refine Ctl.trans (b:=sendS s {msg0 with src:=i,dst:=i - 1,kind:=5,count:=x.token.count+x.sent - x.came,black:=x.token.black||x.black}) (Ctl.send h.form (.inl rfl) hil (by show(i - 1).toNat < s.W.length;omega)) ?_
    exact Ctl.rework (x:=x) (by rw[sendS_W _ _ (by show¬((5:Int)=2\/(5:Int)=4);decide)];exact hx) rfl
theorem Ctl.check(h:Fine N s)(hN:N<=1000000000):Ctl s (checkS s).1:=by
 have h2:=h.two
 have hlen:=h.len
 unfold checkS
 split
 ·exact .refl s
 ·split
  ·unfold ringS
   split
   ·exact .refl s
   ·rename_i x hx
    split
    ·exact .refl s
    ·split
     ·exact⟨fun _=>rfl,rfl,fun f _=>total_congr f rfl⟩
     ·refine Ctl.trans (b:={s with W:=s.W.set 0 {x with black:=false,has:=false}}) (Ctl.rework hx rfl) ?_
      exact Ctl.send (s:={s with W:=s.W.set 0 {x with black:=false,has:=false}}) (m:={msg0 with src:=0,dst:=s.workers - 1,kind:=5}) (h.form.rework rfl (by simp)) (.inl rfl) (by show(0:Int).toNat < _;simp;omega) (by show(s.workers - 1).toNat < _;simp;omega)
  ·unfold wavesS
   split
   ·exact .refl s
   ·rename_i x hx
    have hxo:=h.works x (List.mem_of_getElem? hx)
    have hsn:=hxo.sent
    have hcn:=hxo.came
    split
    ·exact .refl s
    ·split
     ·exact⟨fun _=>rfl,rfl,fun f _=>total_congr f rfl⟩
     ·have h3:Fine (N+1) {s with answers:=s.answers++ [⟨0,0,0,true⟩]}:=h.reans (by have:=h.alen;simp;omega) (by simp) (fun a ha=>by
       rcases List.mem_append.1 ha with e|e
       ·exact(h.ans a e).more (Nat.le_succ N)
       ·rw[List.mem_singleton.1 e];exact⟨by dsimp only;omega,by dsimp only;omega,by dsimp only;omega⟩) (Nat.le_succ N)
      have h4:=h3.noted (a:=x.sent) (b:=x.came) true (by omega) (by omega)
      have e:(notedS {s with answers:=s.answers++ [⟨0,0,0,true⟩]} x.sent x.came true).links=s.links/\(notedS {s with answers:=s.answers++ [⟨0,0,0,true⟩]} x.sent x.came true).values=s.values/\(notedS {s with answers:=s.answers++ [⟨0,0,0,true⟩]} x.sent x.came true).W=s.W/\(notedS {s with answers:=s.answers++ [⟨0,0,0,true⟩]} x.sent x.came true).answers≠ []:=by
       unfold notedS
       split
       ·rename_i q
        simp at q
       ·exact⟨rfl,rfl,rfl,by simp⟩
      refine Ctl.trans (b:=notedS {s with answers:=s.answers++ [⟨0,0,0,true⟩]} x.sent x.came true) ⟨fun g=>tasksSum_congr g e.2.2.1,e.2.1,fun f _=>total_congr f e.1⟩ (Ctl.waves _ _ _ h4 e.2.2.2 (fun k hk=> ?_))
      have:=List.mem_range'_1.1 hk
      rw[e.2.2.1]
      omega
end
theorem askW_work{N:Nat}{s:RunS}(h:Fine N s)(i:Int):total askW (workS s i).1=total askW s:=by
 unfold workS
 split
 ·rfl
 ·rename_i hw
  obtain⟨hlo,hlt⟩:=workerE_range hw
  obtain⟨hil,hie⟩:=h.nat hlo hlt
  split
  ·rfl
  ·split
   ·rfl
   ·split
    ·rfl
    ·dsimp only
     split
     ·rfl
     ·have h2:=h.two
      have hlen:=h.len
      rw[total_form askW (h.form.rework (s':=_) ?_ ?_) _ ?_ ?_]
      ·simp[askW]
       rfl
      ·rfl
      ·simp
      ·simpa using hil
      ·simp
       omega
theorem left_work_some{g:TaskS->Nat}{N:Nat}{s:RunS}(h:Fine N s)(hT:Tree s.ks g fun _=>1)(i:Int)(h0:(workS s i).2=0):left g (workS s i).1+1<=left g s:=by
 obtain⟨x,t,hx,ht,hm⟩:=mass_work_some h i h0
 have hxo:=h.works x (List.mem_of_getElem? hx)
 have hone:=hT.one t (hxo.good t (List.mem_of_getLast? ht)).1
 have hm:=hm (fun t=>2*g t) (fun _=>1)
 have e1:=left_mass g s
 have e2:=left_mass g (workS s i).1
 have e3:=askW_work h i
 have e4:((children s.ks t).map fun t=>2*g t).sum=2*((children s.ks t).map g).sum:=by
  generalize children s.ks t=l
  induction l with
  |nil=>rfl
  |cons a l ih=>rw[List.map_cons,List.sum_cons,List.map_cons,List.sum_cons,ih];omega
 have e5:s.values.length<=(workS s i).1.values.length:=by
  have hs:∀(s:RunS) (m:MsgS),(sendS s m).values=s.values:=fun s m=>by
   unfold sendS wayS
   dsimp only
   split<;>split<;>rfl
  unfold workS
  dsimp only
  repeat' split
  all_goals first|exact Nat.le_refl _|(rw[hs];exact Nat.le_refl _)|(show _<=(putS _ _).length;rw[putS_length];omega)
 omega
theorem left_work_none{s:RunS}(g:TaskS->Nat)(i:Int)(h0:(workS s i).2≠0):left g (workS s i).1=left g s:=by
 unfold workS at h0 ⊢
 split at h0
 ·rename_i h
  rw[if_pos h]
 ·rename_i h
  rw[if_neg h]
  split at h0
  ·rfl
  ·rename_i x hx
   split at h0
   ·rename_i ht
    simp only
   ·rename_i t ht
    simp only
    split at h0
    ·rename_i hr
     rw[if_pos hr]
     rfl
    ·dsimp only at h0
     split at h0<;>exact absurd rfl h0
theorem Fine.fit{N:Nat}{s:RunS}(h:Fine N s)(a b:Nat):0<=(linkOf s a b).came/\(linkOf s a b).came<=(linkOf s a b).all.length:=by
 by_cases ha:a < s.W.length
 ·by_cases hb:b < s.W.length
  ·exact(h.links a b ha hb).came
  ·have h1:s.links[a]?= some (s.links[a]'(by rw[h.llen];exact ha)):=List.getElem?_eq_getElem _
   have h2:=h.lrow _ (List.mem_of_getElem? h1)
   unfold linkOf
   rw[h1,Option.getD_some,List.getElem?_eq_none (by omega)]
   exact⟨Int.le_refl _,Int.le_refl _⟩
 ·unfold linkOf
  rw[show s.links[a]?= none from List.getElem?_eq_none (by rw[h.llen];omega)]
  exact⟨Int.le_refl _,Int.le_refl _⟩
structure Down(g:TaskS->Nat)(s s':RunS):Prop where
 all:∀a b,(linkOf s a b).all <+: (linkOf s' a b).all
 came:∀a b,(linkOf s a b).came<=(linkOf s' a b).came
 less:left g s' < left g s\/(left g s'<=left g s/\∀(a b k:Nat) (m:MsgS),(linkOf s a b).came<=k->(k:Int) < (linkOf s' a b).came->(linkOf s' a b).all[k]?= some m->5<=m.kind)
theorem Down.le{g:TaskS->Nat}{s s':RunS}(h:Down g s s'):left g s'<=left g s:=by
 rcases h.less with h|h
 ·omega
 ·exact h.1
theorem Down.refl(g:TaskS->Nat)(s:RunS):Down g s s:=⟨fun _ _=>List.prefix_refl _,fun _ _=>Int.le_refl _,.inr ⟨Nat.le_refl _,fun a b k m h1 h2=>by omega⟩⟩
theorem Down.trans{g:TaskS->Nat}{a b c:RunS}(h:Down g a b)(k:Down g b c)(hb:∀x y,(linkOf b x y).came<=(linkOf b x y).all.length):Down g a c:=by
 refine⟨fun x y=>(h.all x y).trans (k.all x y),fun x y=>Int.le_trans (h.came x y) (k.came x y),?_⟩
 rcases h.less with h1|⟨h1,h2⟩
 ·exact .inl (by have:=k.le;omega)
 ·rcases k.less with k1|⟨k1,k2⟩
  ·exact .inl (by omega)
  ·refine .inr ⟨by omega,fun x y n m e1 e2 e3=> ?_⟩
   by_cases q:(n:Int) < (linkOf b x y).came
   ·have hl:n < (linkOf b x y).all.length:=by have:=hb x y;omega
    refine h2 x y n m e1 q ?_
    obtain⟨t,e⟩:=k.all x y
    rw[<-e,List.getElem?_append_left hl]at e3
    exact e3
   ·exact k2 x y n m (by omega) e2 e3
theorem Down.sending{g:TaskS->Nat}{c a:Nat}{s s':RunS}(h:Sending c a s s')(hl:left g s'<=left g s):Down g s s':=
 ⟨h.all,fun x y=>by rw[h.came];exact Int.le_refl _,.inr ⟨hl,fun x y k m e1 e2=>by rw[h.came]at e2;omega⟩⟩
theorem Down.same{g:TaskS->Nat}{s s':RunS}(e:Same s s'):Down g s s':=
 ⟨fun a b=>by rw[(e.links a b).1];exact List.prefix_refl _,fun a b=>by rw[(e.links a b).2];exact Int.le_refl _,.inr ⟨by rw[(Ctl.same e).as];exact Nat.le_refl _,fun a b k m e1 e2=>by rw[(e.links a b).2]at e2;omega⟩⟩
theorem Down.thing{g:TaskS->Nat}{N:Nat}{s:RunS}{i j:Nat}{m:MsgS}(h:Fine N s)(hi:i < s.W.length)(hj:j < s.W.length)(hg:(linkOf s i j).all[(linkOf s i j).came.toNat]?= some m)(hm:MsgOK s.ks (s.answers≠ []) N i j (linkOf s i j).came.toNat m)(hF:Fine N (setLink s i j {linkOf s i j with came:=(linkOf s i j).came+1})):Down g s (cameS (setLink s i j {linkOf s i j with came:=(linkOf s i j).came+1}) m):=by
 obtain⟨hc,hc2⟩:=Coming.thing h hi hj hg hm hF
 have hl:=left_came g h hi hj hg hm hF
 refine⟨hc.all,fun a b=> ?_,?_⟩
 ·by_cases q:a=i/\b=j
  ·obtain⟨rfl,rfl⟩:=q
   exact hc.up
  ·rw[hc.came a b q]
   exact Int.le_refl _
 ·by_cases h4:m.kind<=4
  ·rw[if_pos h4]at hl
   exact .inl (by omega)
  ·rw[if_neg h4]at hl
   refine .inr ⟨by omega,fun a b k m' e1 e2 e3=> ?_⟩
   by_cases q:a=i/\b=j
   ·obtain⟨rfl,rfl⟩:=q
    have h0:=(h.fit a b).1
    have ek:k=(linkOf s a b).came.toNat:=by omega
    subst ek
    obtain⟨t,e⟩:=hc.all a b
    rw[<-e,List.getElem?_append_left (List.getElem?_eq_some_iff.1 hg).1,hg]at e3
    obtain rfl:=Option.some.inj e3
    omega
   ·rw[hc.came a b q]at e2
    omega
theorem Down.deliver{g:TaskS->Nat}{N:Nat}{s:RunS}(h:Fine N s)(hN:N+5<=90000000)(k:Int):Down g s (deliverS s k).1:=
 (deliver_ind (P:=fun s'=>Down g s s'/\∀x y,(linkOf s' x y).came<=(linkOf s' x y).all.length) (fun s1 s2 e hp=>⟨hp.1.trans (.same e) hp.2,fun x y=>by rw[(e.links x y).1,(e.links x y).2];exact hp.2 x y⟩)
  (fun N s1 i j m hF _ hi hj hg hm hF2 hp=>⟨hp.1.trans (.thing hF hi hj hg hm hF2) hp.2,fun x y=>by
   obtain⟨hc,hc2⟩:=Coming.thing hF hi hj hg hm hF2
   have hlen:=(hc.all x y).length_le
   have:=hp.2 x y
   by_cases q:x=i/\y=j
   ·obtain⟨rfl,rfl⟩:=q
    have:=(List.getElem?_eq_some_iff.1 hg).1
    have:=(hF.fit x y).1
    omega
   ·rw[hc.came x y q]
    omega⟩) ⟨.refl g s,fun x y=>(h.fit x y).2⟩ h hN k).1
theorem Down.drain{g:TaskS->Nat}{n N:Nat}{s:RunS}(h:Fine N s)(hN:N+5*n<=90000000)(h0:startE s=0):Down g s (drainS n s):=
 (drain_ind (P:=fun s'=>Down g s s') (fun _ _ _ _ hF hN _ _ _ hp=>hp.trans (.deliver hF hN 0) (fun x y=>(hF.fit x y).2)) n N s h hN h0 (.refl g s)).1
def fR(k:Nat)(m:MsgS):Nat:=if m.kind=7/\m.src=(k:Int)then 1 else 0
structure Ctrl(s:RunS):Prop where
 ring:s.mode=1->held s+total tok s=1/\total f6 s=0/\total f7 s=0
 waves:s.mode≠1->total tok s=0/\∀k,total (fW k) s+total (fR k) s<=1
structure Apart(s s':RunS):Prop where
 mode:s'.mode=s.mode
 hold:held s'=held s
 tot:∀f:MsgS->Nat,(∀m,m.kind<=4->f m=0)->total f s'=total f s
theorem Apart.refl(s:RunS):Apart s s:=⟨rfl,rfl,fun _ _=>rfl⟩
theorem Apart.trans{a b c:RunS}(h:Apart a b)(k:Apart b c):Apart a c:=⟨k.mode.trans h.mode,k.hold.trans h.hold,fun f hf=>(k.tot f hf).trans (h.tot f hf)⟩
theorem Ctrl.apart{s s':RunS}(h:Ctrl s)(k:Apart s s'):Ctrl s':=by
 have e5:=k.tot tok (fun m hm=>if_neg (by omega))
 have e6:=k.tot f6 (fun m hm=>if_neg (by omega))
 have e7:=k.tot f7 (fun m hm=>if_neg (by omega))
 have eW:=fun n=>k.tot (fW n) (fun m hm=>if_neg (by omega))
 have eR:=fun n=>k.tot (fR n) (fun m hm=>if_neg (by omega))
 refine⟨fun hm=> ?_,fun hm=> ?_⟩
 ·rw[k.mode]at hm
  rw[k.hold,e5,e6,e7]
  exact h.ring hm
 ·rw[k.mode]at hm
  rw[e5]
  refine⟨(h.waves hm).1,fun n=> ?_⟩
  rw[eW,eR]
  exact(h.waves hm).2 n
theorem sendS_held(s:RunS)(m:MsgS):held (sendS s m)=held s:=by
 unfold held sendS wayS
 dsimp only
 have e:∀(W:List WorkerS) (i:Nat),(W.set i {W[i]?.getD worker0 with sent:=(W[i]?.getD worker0).sent+1}).map hasN=W.map hasN:=fun W i=>by
  cases hx:W[i]? with
  |none=>rw[List.set_eq_of_length_le (by rw[List.getElem?_eq_none_iff]at hx;exact hx)]
  |some x=>
   rw[Option.getD_some,List.map_set]
   obtain⟨hlt,he⟩:=List.getElem?_eq_some_iff.1 hx
   refine List.ext_getElem? (fun n=> ?_)
   rw[List.getElem?_set]
   split
   ·rename_i q
    subst q
    rw[if_pos (by simpa using hlt),List.getElem?_map,hx]
    rfl
   ·rfl
 split<;>split
 ·rw[e]
 ·rw[e]
 ·rfl
 ·rfl
theorem sendS_mode(s:RunS)(m:MsgS):(sendS s m).mode=s.mode:=(Stays.send s m).mode
theorem Apart.send{s:RunS}(h:Form s){m:MsgS}(hk:m.kind<=4)(hi:m.src.toNat < s.W.length)(hj:m.dst.toNat < s.W.length):Apart s (sendS s m):=
 ⟨sendS_mode s m,sendS_held s m,fun f hf=>by rw[total_form f h m hi hj,hf {m with no:=(linkOf s m.src.toNat m.dst.toNat).all.length+1} hk];rfl⟩
theorem Apart.send2{s s1:RunS}(k:Apart s s1)(h:Form s)(hl:s1.links=s.links)(hW:s1.W.length=s.W.length){m:MsgS}(hk:m.kind<=4)(hi:m.src.toNat < s.W.length)(hj:m.dst.toNat < s.W.length):Apart s (sendS s1 m):=
 k.trans (Apart.send (h.rework hl hW) hk (by rw[hW];exact hi) (by rw[hW];exact hj))
theorem held_same{s:RunS}{i:Nat}{x x':WorkerS}(hx:s.W[i]?= some x)(hh:x'.has=x.has):held {s with W:=s.W.set i x'}=held s:=by
 have:=held_set x' hx
 unfold hasN at this
 rw[hh]at this
 omega
theorem Apart.rework{s s':RunS}{i:Nat}{x x':WorkerS}(hx:s.W[i]?= some x)(hh:x'.has=x.has)(hW:s'.W=s.W.set i x')(hm:s'.mode=s.mode)(hl:s'.links=s.links):Apart s s':=
 ⟨hm,by have:=held_same hx hh;unfold held at this ⊢;rw[hW];exact this,fun f _=>total_congr f hl⟩
theorem Apart.same{s s':RunS}(e:Same s s'):Apart s s':=⟨e.mode,by unfold held;rw[e.W],fun f _=>e.shape.2 f⟩
section
variable {N:Nat} {s:RunS}
theorem Apart.work(h:Fine N s)(i:Int):Apart s (workS s i).1:=by
 unfold workS
 split
 ·exact .refl s
 ·rename_i hw
  obtain⟨hlo,hlt⟩:=workerE_range hw
  obtain⟨hil,hie⟩:=h.nat hlo hlt
  split
  ·exact .refl s
  ·rename_i x hx
   split
   ·exact .refl s
   ·rename_i t ht
    split
    ·exact⟨rfl,rfl,fun f _=>total_congr f rfl⟩
    ·dsimp only
     split
     ·refine Apart.rework hx (x':={x with tasks:=x.tasks.dropLast++children s.ks t}) ?_ ?_ ?_ ?_<;>rfl
     ·have h2:=h.two
      have hlen:=h.len
      refine Apart.send2 (s1:={s with W:=s.W.set i.toNat {x with tasks:=x.tasks.dropLast++children s.ks t}}) (Apart.rework hx (x':={x with tasks:=x.tasks.dropLast++children s.ks t}) rfl rfl rfl rfl) h.form rfl (by simp) ?_ ?_ ?_
      ·show(4:Int)<=4
       decide
      ·exact hil
      ·show(0:Int).toNat < s.W.length
       simp
       omega
theorem Apart.steal(h:Fine N s)(i v:Int):Apart s (stealS s i v).1:=by
 unfold stealS
 split
 ·exact .refl s
 ·rename_i hw
  obtain⟨hlo,hlt⟩:=workerE_range hw
  obtain⟨hil,hie⟩:=h.nat hlo hlt
  split
  ·exact .refl s
  ·rename_i hw2
   obtain⟨hlo2,hlt2⟩:=workerE_range hw2
   obtain⟨hil2,hie2⟩:=h.nat hlo2 hlt2
   split
   ·exact .refl s
   ·split
    ·exact .refl s
    ·rename_i x hx
     split
     ·exact .refl s
     ·refine Apart.send2 (s1:={s with W:=s.W.set i.toNat {x with asked:=true}}) (Apart.rework hx (x':={x with asked:=true}) rfl rfl rfl rfl) h.form rfl (by simp) ?_ ?_ ?_
      ·show(1:Int)<=4
       decide
      ·exact hil
      ·exact hil2
theorem Ctrl.work(hc:Ctrl s)(h:Fine N s)(i:Int):Ctrl (workS s i).1:=hc.apart (.work h i)
theorem Ctrl.steal(hc:Ctrl s)(h:Fine N s)(i v:Int):Ctrl (stealS s i v).1:=hc.apart (.steal h i v)
theorem Ctrl.drop(hc:Ctrl s)(k:Int):Ctrl (dropS s k).1:=hc.apart (.same (Same.drop s k))
theorem Ctrl.twice(hc:Ctrl s)(k:Int):Ctrl (twiceS s k).1:=hc.apart (.same (Same.twice s k))
theorem Ctrl.tick(hc:Ctrl s)(i:Int):Ctrl (tickS s i).1:=hc.apart (.same (Same.tick s i))
theorem Ctrl.new(workers room mode kind arg:Int)(ks:List KindS):Ctrl (newS workers room mode ks kind arg):=by
 refine⟨fun _=>⟨?_,total_new _ _ _ _ _ _ _,total_new _ _ _ _ _ _ _⟩,fun _=>⟨total_new _ _ _ _ _ _ _,fun k=>by rw[total_new,total_new];omega⟩⟩
 have e:∀n:Nat,((List.replicate n worker0).map hasN).sum=0:=fun n=>by
  induction n with
  |zero=>rfl
  |succ n ih=>rw[List.replicate_succ,List.map_cons,List.sum_cons,ih];rfl
 rw[total_new]
 unfold held newS
 dsimp only
 rw[List.map_cons,List.sum_cons,e]
 rfl
theorem Ctrl.thing{i j:Nat}{m:MsgS}(hc:Ctrl s)(h:Fine N s)(hi:i < s.W.length)(hj:j < s.W.length)(hg:(linkOf s i j).all[(linkOf s i j).came.toNat]?= some m)(hm:MsgOK s.ks (s.answers≠ []) N i j (linkOf s i j).came.toNat m)(hF:Fine N (setLink s i j {linkOf s i j with came:=(linkOf s i j).came+1})):Ctrl (cameS (setLink s i j {linkOf s i j with came:=(linkOf s i j).came+1}) m):=by
 have hst:=fun f=>total_step f h hi hj hg
 have hW:(setLink s i j {linkOf s i j with came:=(linkOf s i j).came+1}).W=s.W:=rfl
 have hM:(setLink s i j {linkOf s i j with came:=(linkOf s i j).came+1}).mode=s.mode:=rfl
 generalize setLink s i j {linkOf s i j with came:=(linkOf s i j).came+1}=S at *
 have hH:held S=held s:=by unfold held;rw[hW]
 have hx:S.W[m.dst.toNat]?= some (S.W[m.dst.toNat]'(by rw[hm.dst,hW];simpa using hj)):=List.getElem?_eq_getElem _
 have hk:=hm.kind
 have hmj:m.dst.toNat < S.W.length:=by rw[hm.dst,hW];simpa using hj
 have hmi:m.src.toNat < S.W.length:=by rw[hm.src,hW];simpa using hi
 by_cases h4:m.kind<=4
 ·have hcS:Ctrl S:=by
   have e:∀f:MsgS->Nat,(∀m,m.kind<=4->f m=0)->total f S=total f s:=fun f hf=>by have:=hst f;rw[hf m h4]at this;omega
   exact hc.apart ⟨hM,hH,e⟩
  refine hcS.apart ?_
  unfold cameS
  dsimp only
  rw[hx,Option.getD_some]
  split
  ·split
   ·refine Apart.send hF.form ?_ ?_ ?_
    ·show(3:Int)<=4
     decide
    ·exact hmj
    ·exact hmi
   ·rename_i t r ht
    refine Apart.send2 (s1:={S with W:=S.W.set m.dst.toNat {S.W[m.dst.toNat]'hmj with tasks:=r}}) (Apart.rework hx (x':={S.W[m.dst.toNat]'hmj with tasks:=r}) rfl rfl rfl rfl) hF.form rfl (by simp) ?_ ?_ ?_
    ·show(2:Int)<=4
     decide
    ·exact hmj
    ·exact hmi
  ·split
   ·refine Apart.rework hx (x':={S.W[m.dst.toNat]'hmj with came:=(S.W[m.dst.toNat]'hmj).came+1,black:=true,asked:=false,tasks:=(S.W[m.dst.toNat]'hmj).tasks++ [m.t]}) ?_ ?_ ?_ ?_<;>rfl
   ·split
    ·refine Apart.rework hx (x':={S.W[m.dst.toNat]'hmj with asked:=false}) ?_ ?_ ?_ ?_<;>rfl
    ·split
     ·refine Apart.rework hx (x':={S.W[m.dst.toNat]'hmj with came:=(S.W[m.dst.toNat]'hmj).came+1,black:=true}) ?_ ?_ ?_ ?_<;>rfl
     ·exact absurd h4 (by omega)
 ·by_cases h5:m.kind=5
  ·have ht:tok m=1:=if_pos h5
   have ht':=hst tok
   have e:∀f:MsgS->Nat,f m=0->total f S=total f s:=fun f hf=>by have:=hst f;omega
   have hmode:s.mode=1:=by
    by_cases q:s.mode=1
    ·exact q
    ·have:=(hc.waves q).1
     omega
   obtain⟨r1,r2,r3⟩:=hc.ring hmode
   unfold cameS
   dsimp only
   rw[if_neg (by omega),if_neg (by omega),if_neg (by omega),if_neg (by omega),if_pos h5,hx,Option.getD_some]
   have hh:=held_set (s:=S) {S.W[m.dst.toNat]'hmj with has:=true,token:=m} hx
   have hn:hasN {S.W[m.dst.toNat]'hmj with has:=true,token:=m}=1:=rfl
   have hz:hasN (S.W[m.dst.toNat]'hmj)<=held S:=mem_sum hasN _ _ (List.getElem_mem _)
   refine⟨fun _=>⟨?_,?_,?_⟩,fun q=>absurd (hM.trans hmode) q⟩
   ·have a:held {S with W:=S.W.set m.dst.toNat {S.W[m.dst.toNat]'hmj with has:=true,token:=m},around:=S.around||m.dst==0}=held {S with W:=S.W.set m.dst.toNat {S.W[m.dst.toNat]'hmj with has:=true,token:=m}}:=rfl
    have b:total tok {S with W:=S.W.set m.dst.toNat {S.W[m.dst.toNat]'hmj with has:=true,token:=m},around:=S.around||m.dst==0}=total tok S:=total_congr tok rfl
    rw[a,b]
    omega
   ·exact(total_congr f6 rfl).trans ((e f6 (if_neg (by omega))).trans r2)
   ·exact(total_congr f7 rfl).trans ((e f7 (if_neg (by omega))).trans r3)
  ·have hmode:s.mode≠1:=fun q=>by
    obtain⟨r1,r2,r3⟩:=hc.ring q
    have a:=hst f6
    have b:=hst f7
    by_cases h6:m.kind=6
    ·have:f6 m=1:=if_pos h6
     omega
    ·have:f7 m=1:=if_pos (by omega)
     omega
   obtain⟨w1,w2⟩:=hc.waves hmode
   have et:total tok S=0:=by have:=hst tok;omega
   by_cases h6:m.kind=6
   ·unfold cameS
    dsimp only
    rw[if_neg (by omega),if_neg (by omega),if_neg (by omega),if_neg (by omega),if_neg (by omega),if_pos h6,hx,Option.getD_some]
    refine⟨fun q=>absurd ((sendS_mode _ _).symm.trans q) (by rw[hM];exact hmode),fun _=>⟨?_,fun k=> ?_⟩⟩
    ·rw[total_form tok hF.form _ hmj (by show(0:Int).toNat < _;simp;omega),et]
     rfl
    ·rw[total_form (fW k) hF.form _ hmj (by show(0:Int).toNat < _;simp;omega),total_form (fR k) hF.form _ hmj (by show(0:Int).toNat < _;simp;omega)]
     have a:=hst (fW k)
     have b:=hst (fR k)
     have c:=w2 k
     have d:fR k m=0:=if_neg (by omega)
     have e:∀n:Int,fW k {msg0 with src:=m.dst,dst:=0,no:=n,kind:=7,round:=m.round,sent:=(S.W[m.dst.toNat]'hmj).sent,came:=(S.W[m.dst.toNat]'hmj).came,idle:=(S.W[m.dst.toNat]'hmj).tasks.isEmpty}=0:=fun n=>rfl
     have f:∀n:Int,fR k {msg0 with src:=m.dst,dst:=0,no:=n,kind:=7,round:=m.round,sent:=(S.W[m.dst.toNat]'hmj).sent,came:=(S.W[m.dst.toNat]'hmj).came,idle:=(S.W[m.dst.toNat]'hmj).tasks.isEmpty}=if m.dst=(k:Int)then 1 else 0:=fun n=>by
      unfold fR
      dsimp only
      by_cases q:m.dst=(k:Int)<;>simp[q]
     have g:fW k m=if m.dst=(k:Int)then 1 else 0:=by
      unfold fW
      by_cases q:m.dst=(k:Int)<;>simp[q,h6]
     have e:=e ((linkOf S m.dst.toNat (0:Int).toNat).all.length+1)
     have f:=f ((linkOf S m.dst.toNat (0:Int).toNat).all.length+1)
     dsimp only at e f ⊢
     omega
   ·have h7:m.kind=7:=by omega
    have hcS:Ctrl S:=⟨fun q=>absurd (hM.symm.trans q) hmode,fun _=>⟨et,fun k=>by have a:=hst (fW k);have b:=hst (fR k);have c:=w2 k;omega⟩⟩
    unfold cameS notedS
    dsimp only
    rw[if_neg (by omega),if_neg (by omega),if_neg (by omega),if_neg (by omega),if_neg (by omega),if_neg h6,if_pos h7]
    split
    ·exact hcS
    ·exact hcS.apart ⟨rfl,rfl,fun f _=>total_congr f rfl⟩
theorem Ctrl.deliver(hc:Ctrl s)(h:Fine N s)(hN:N+5<=90000000)(k:Int):Ctrl (deliverS s k).1:=
 deliver_ind (P:=Ctrl) (fun _ _ e hp=>hp.apart (.same e)) (fun _ _ _ _ _ hF _ hi hj hg hm hF2 hp=>hp.thing hF hi hj hg hm hF2) hc h hN k
theorem Ctrl.pass(hc:Ctrl s)(h:Fine N s)(i:Int):Ctrl (passS s i).1:=by
 unfold passS
 split
 ·exact hc
 ·rename_i hw
  obtain⟨hlo,hlt⟩:=workerE_range hw
  obtain⟨hil,hie⟩:=h.nat hlo hlt
  split
  ·exact hc
  ·rename_i x hx
   split
   ·exact hc
   ·rename_i hn
    have hmode:s.mode=1:=by
     by_cases q:s.mode=1
     ·exact q
     ·exact absurd (.inl q) hn
    have hhas:hasN x=1:=by
     unfold hasN
     cases q:x.has with
     |true=>rfl
     |false=>exact absurd (.inr (.inr (.inl q))) hn
    obtain⟨r1,r2,r3⟩:=hc.ring hmode
    have hd:(i - 1).toNat < s.W.length:=by omega
    have ht:=fun f=>total_form f h.form {msg0 with src:=i,dst:=i - 1,kind:=5,count:=x.token.count+x.sent - x.came,black:=x.token.black||x.black} hil hd
    have hW:(sendS s {msg0 with src:=i,dst:=i - 1,kind:=5,count:=x.token.count+x.sent - x.came,black:=x.token.black||x.black}).W=s.W:=sendS_W _ _ (by show¬((5:Int)=2\/(5:Int)=4);decide)
    have hM:(sendS s {msg0 with src:=i,dst:=i - 1,kind:=5,count:=x.token.count+x.sent - x.came,black:=x.token.black||x.black}).mode=s.mode:=sendS_mode _ _
    have hh:=held_set (s:=s) {x with black:=false,has:=false} hx
    have h0:hasN {x with black:=false,has:=false}=0:=rfl
    have a5:∀n:Int,tok {msg0 with src:=i,dst:=i - 1,no:=n,kind:=5,count:=x.token.count+x.sent - x.came,black:=x.token.black||x.black}=1:=fun n=>rfl
    have a6:∀n:Int,f6 {msg0 with src:=i,dst:=i - 1,no:=n,kind:=5,count:=x.token.count+x.sent - x.came,black:=x.token.black||x.black}=0:=fun n=>rfl
    have a7:∀n:Int,f7 {msg0 with src:=i,dst:=i - 1,no:=n,kind:=5,count:=x.token.count+x.sent - x.came,black:=x.token.black||x.black}=0:=fun n=>rfl
    dsimp only
    generalize sendS s {msg0 with src:=i,dst:=i - 1,kind:=5,count:=x.token.count+x.sent - x.came,black:=x.token.black||x.black}=S at *
    have b5:=ht tok
    have b6:=ht f6
    have b7:=ht f7
    dsimp only at b5 b6 b7
    rw[a5]at b5
    rw[a6]at b6
    rw[a7]at b7
    refine⟨fun _=>⟨?_,?_,?_⟩,fun q=>absurd (hM.trans hmode) q⟩
    ·have e1:held {S with W:=S.W.set i.toNat {x with black:=false,has:=false}}=held {s with W:=s.W.set i.toNat {x with black:=false,has:=false}}:=by unfold held;dsimp only;rw[hW]
     have e2:total tok {S with W:=S.W.set i.toNat {x with black:=false,has:=false}}=total tok S:=total_congr tok rfl
     rw[e1,e2]
     omega
    ·exact(total_congr f6 (s':=S) rfl).trans (by omega)
    ·exact(total_congr f7 (s':=S) rfl).trans (by omega)
theorem Ctrl.check(hc:Ctrl s)(hw:WavesOK s)(hv:Even 0 s)(h:Fine N s)(hN:N<=1000000000):Ctrl (checkS s).1:=by
 have hone:=(hw.check hv h hN).one
 have h2:=h.two
 have hlen:=h.len
 unfold checkS at hone ⊢
 split
 ·exact hc
 ·rename_i hst
  rw[if_neg hst]at hone
  split
  ·rename_i hmode
   unfold ringS
   split
   ·exact hc
   ·rename_i x hx
    split
    ·exact hc
    ·rename_i hn
     split
     ·exact hc.apart ⟨rfl,rfl,fun f _=>total_congr f rfl⟩
     ·have hhas:hasN x=1:=by
       unfold hasN
       cases q:x.has with
       |true=>rfl
       |false=>exact absurd (.inl q) hn
      obtain⟨r1,r2,r3⟩:=hc.ring hmode
      have hf:Form {s with W:=s.W.set 0 {x with black:=false,has:=false}}:=h.form.rework rfl (by simp)
      have ht:=fun f=>total_form f hf {msg0 with src:=0,dst:=s.workers - 1,kind:=5} (by show(0:Int).toNat < _;simp;omega) (by show(s.workers - 1).toNat < _;simp;omega)
      have hh:=held_set (s:=s) {x with black:=false,has:=false} hx
      have h0:hasN {x with black:=false,has:=false}=0:=rfl
      have a5:∀n:Int,tok {msg0 with src:=0,dst:=s.workers - 1,no:=n,kind:=5}=1:=fun n=>rfl
      have a6:∀n:Int,f6 {msg0 with src:=0,dst:=s.workers - 1,no:=n,kind:=5}=0:=fun n=>rfl
      have a7:∀n:Int,f7 {msg0 with src:=0,dst:=s.workers - 1,no:=n,kind:=5}=0:=fun n=>rfl
      have e2:∀f,total f {s with W:=s.W.set 0 {x with black:=false,has:=false}}=total f s:=fun f=>total_congr f rfl
      refine⟨fun _=>⟨?_,?_,?_⟩,fun q=>q.elim ?_⟩
      rotate_left 3
      ·rw[sendS_mode]
       exact hmode
      ·rw[sendS_held,ht,e2]
       have:=a5 ((linkOf {s with W:=s.W.set 0 {x with black:=false,has:=false}} (0:Int).toNat (s.workers - 1).toNat).all.length+1)
       dsimp only at this ⊢
       omega
      ·rw[ht,e2,r2]
       rfl
      ·rw[ht,e2,r3]
       rfl
  ·rename_i hmode
   rw[if_neg hmode]at hone
   unfold wavesS at hone ⊢
   split
   ·exact hc
   ·rename_i x hx
    have hxo:=h.works x (List.mem_of_getElem? hx)
    have hsn:=hxo.sent
    have hcn:=hxo.came
    rw[hx]at hone
    simp only at hone
    split
    ·exact hc
    ·rename_i hn
     rw[if_neg hn]at hone
     split
     ·exact hc.apart ⟨rfl,rfl,fun f _=>total_congr f rfl⟩
     ·rename_i htw
      rw[if_neg htw]at hone
      have h3:Fine (N+1) {s with answers:=s.answers++ [⟨0,0,0,true⟩]}:=h.reans (by have:=h.alen;simp;omega) (by simp) (fun a ha=>by
       rcases List.mem_append.1 ha with e|e
       ·exact(h.ans a e).more (Nat.le_succ N)
       ·rw[List.mem_singleton.1 e];exact⟨by dsimp only;omega,by dsimp only;omega,by dsimp only;omega⟩) (Nat.le_succ N)
      have h4:=h3.noted (a:=x.sent) (b:=x.came) true (by omega) (by omega)
      have e:(notedS {s with answers:=s.answers++ [⟨0,0,0,true⟩]} x.sent x.came true).links=s.links/\(notedS {s with answers:=s.answers++ [⟨0,0,0,true⟩]} x.sent x.came true).mode=s.mode/\(notedS {s with answers:=s.answers++ [⟨0,0,0,true⟩]} x.sent x.came true).W=s.W/\(notedS {s with answers:=s.answers++ [⟨0,0,0,true⟩]} x.sent x.came true).answers≠ []:=by
       unfold notedS
       split
       ·rename_i q
        simp at q
       ·exact⟨rfl,rfl,rfl,by simp⟩
      have hL:∀k∈List.range' 1 (s.W.length - 1),1<=k/\k < (notedS {s with answers:=s.answers++ [⟨0,0,0,true⟩]} x.sent x.came true).W.length:=fun k hk=>by
       have:=List.mem_range'_1.1 hk
       rw[e.2.2.1]
       omega
      have hop:openB s=false:=by
       cases hb:openB s with
       |false=>rfl
       |true=>exact absurd (.inr hb) hn
      have z7:total f7 s=0:=by
       cases e:s.answers.reverse with
       |nil=>exact(hw.none (by simpa using e)).2
       |cons b L=>
        have e2:s.answers=L.reverse++ [b]:=by
         have:=congrArg List.reverse e
         simpa using this
        have h1:=hw.many _ _ e2
        have h3:¬b.many < s.workers:=by
         have:openB s=decide (b.many < s.workers):=by
          unfold openB
          rw[e2,List.getLast?_append,List.getLast?_singleton,Option.some_or]
         rw[this]at hop
         exact of_decide_eq_false hop
        omega
      have wt:=fun f hf=>waves_total (r:=(s.answers.length+1:Int)) f hf _ _ _ h4 e.2.2.2 hL
      refine⟨fun q=>absurd ((Stays.waves _ _).mode.symm.trans q) (by rw[e.2.1];exact hmode),fun _=>⟨?_,fun k=> ?_⟩⟩
      ·rw[wt tok (fun _ _=>rfl),total_congr tok e.1,(hc.waves hmode).1,Nat.zero_add]
       exact sum_none (fun k _=>rfl)
      ·have hR:total (fR k) ((List.range' 1 (s.W.length - 1)).foldl (waveS (s.answers.length+1)) (notedS {s with answers:=s.answers++ [⟨0,0,0,true⟩]} x.sent x.came true))=0:=by
        rw[wt (fR k) (fun _ _=>rfl),total_congr (fR k) e.1]
        have:total (fR k) s<=total f7 s:=total_le (fun m=>by
         unfold fR f7
         split
         ·rename_i q
          rw[if_pos q.1]
          exact Nat.le_refl _
         ·exact Nat.zero_le _) s
        have z:((List.range' 1 (s.W.length - 1)).map fun(i:Nat)=>fR k {msg0 with src:=0,dst:=(i:Int),kind:=6,round:=(s.answers.length+1:Int)}).sum=0:=sum_none (fun i _=>rfl)
        rw[z]
        omega
       rw[hR]
       exact hone k
end
structure Whole(N:Nat)(s:RunS):Prop where
 steady:Steady N s
 sure:Sure s
 told:Told s
 ctrl:Ctrl s
 calm:Calm s
section
variable {N:Nat} {s:RunS}
theorem Whole.fine(h:Whole N s):Fine N s:=h.steady.fine
theorem Whole.more{N':Nat}(h:Whole N s)(hN:N<=N'):Whole N' s:=⟨h.steady.more hN,h.sure,h.told,h.ctrl,h.calm⟩
theorem Whole.new{workers room mode kind arg:Int}{ks:List KindS}(hc:cfgB workers room mode=true)(hp:progB ks kind arg=true):Whole 0 (newS workers room mode ks kind arg):=
 ⟨Steady.new hc hp,Sure.new hc hp,Told.new _ _ _ _ _ _,Ctrl.new _ _ _ _ _ _,Calm.new _ _ _ _ _ _⟩
theorem Whole.work(h:Whole N s)(i:Int):Whole (N+1) (workS s i).1:=⟨h.steady.work i,h.sure.work h.fine i,h.told.work h.fine i,h.ctrl.work h.fine i,h.calm.work h.fine i⟩
theorem Whole.steal(h:Whole N s)(i v:Int):Whole (N+1) (stealS s i v).1:=⟨h.steady.steal i v,h.sure.steal h.fine i v,h.told.steal h.fine i v,h.ctrl.steal h.fine i v,h.calm.steal i v⟩
theorem Whole.drop(h:Whole N s)(k:Int):Whole N (dropS s k).1:=⟨h.steady.drop k,h.sure.drop k,h.told.drop k,h.ctrl.drop k,h.calm.drop k⟩
theorem Whole.twice(h:Whole N s)(k:Int):Whole N (twiceS s k).1:=⟨h.steady.twice k,h.sure.twice k,h.told.twice k,h.ctrl.twice k,h.calm.twice k⟩
theorem Whole.tick(h:Whole N s)(i:Int):Whole N (tickS s i).1:=⟨h.steady.tick i,h.sure.tick i,h.told.tick h.fine i,h.ctrl.tick i,h.calm.tick h.fine i⟩
theorem Whole.deliver(h:Whole N s)(hN:N+5<=90000000)(k:Int):Whole (N+5) (deliverS s k).1:=⟨h.steady.deliver hN k,h.sure.deliver h.fine hN k,h.told.deliver h.fine hN k,h.ctrl.deliver h.fine hN k,h.calm.deliver k⟩
theorem Whole.pass(h:Whole N s)(hN:N<=1000000000)(i:Int):Whole (N+1) (passS s i).1:=⟨h.steady.pass hN i,h.sure.pass h.fine i,h.told.pass h.fine i,h.ctrl.pass h.fine i,h.calm.pass i⟩
theorem Whole.check(h:Whole N s)(hN:N<=1000000000):Whole (N+6) (checkS s).1:=⟨h.steady.check hN,h.sure.check h.fine hN,h.told.check h.fine hN,h.ctrl.check h.sure.waves h.sure.even h.fine hN,h.calm.check h.fine⟩
theorem Whole.drain:∀(n N:Nat) (s:RunS),Whole N s->N+5*n<=90000000->Whole (N+5*n) (drainS n s):=by
 intro n
 induction n with
 |zero=>intro N s h _;exact h
 |succ n ih=>
  intro N s h hN
  unfold drainS
  split
  ·exact(ih (N+5) _ (h.deliver (by omega) 0) (by omega)).more (by omega)
  ·exact h.more (by omega)
end
theorem workerE_stop{s:RunS}(h:startE s≠0)(i:Int):workerE s i≠0:=by
 unfold workerE
 split
 ·rename_i h'
  exact absurd h'.1 h
 ·exact h
theorem work_stop{s:RunS}(h:startE s≠0)(i:Int):(workS s i).1=s:=by
 unfold workS
 rw[if_pos (workerE_stop h i)]
theorem pass_stop{s:RunS}(h:startE s≠0)(i:Int):(passS s i).1=s:=by
 unfold passS
 rw[if_pos (workerE_stop h i)]
theorem tick_stop{s:RunS}(h:startE s≠0)(i:Int):(tickS s i).1=s:=by
 unfold tickS
 rw[if_pos (workerE_stop h i)]
theorem check_stop{s:RunS}(h:startE s≠0):(checkS s).1=s:=by
 unfold checkS
 rw[if_pos h]
theorem drain_stop{s:RunS}(h:startE s≠0):∀n,drainS n s=s
 |0=>rfl
 |n+1=>by
  unfold drainS
  have hm:messageE s 0≠0:=by
   unfold messageE
   rw[if_neg (fun q=>h q.1)]
   exact h
  have e:(deliverS s 0).2≠0:=by
   unfold deliverS
   rw[if_pos hm]
   exact hm
  rw[if_neg e]
def turnS(s:RunS)(w:Nat):RunS:=(tickS (passS (workS s w).1 w).1 w).1
def turnsS(s:RunS):RunS:=(List.range s.W.length).foldl turnS s
def roundS(s:RunS):RunS:=drainS 1000 (checkS (turnsS s)).1
theorem turn_stop{s:RunS}(h:startE s≠0)(w:Nat):turnS s w=s:=by
 unfold turnS
 rw[work_stop h,pass_stop h,tick_stop h]
theorem turns_stop{s:RunS}(h:startE s≠0):∀L:List Nat,L.foldl turnS s=s
 |[]=>rfl
 |a :: L=>by rw[List.foldl_cons,turn_stop h,turns_stop h L]
theorem workerE_zero{s:RunS}{w:Nat}(h:startE s=0)(hw:(w:Int) < s.workers):workerE s (w:Int)=0:=by
 unfold workerE
 rw[if_neg (by omega)]
 exact h
theorem work_alive{N:Nat}{s:RunS}(hF:Fine N s)(h:startE s=0){w:Nat}(hw:w < s.W.length):(workS s w).1.over=true\/(startE (workS s w).1=0/\(∀x,s.W[w]?= some x->x.tasks≠ []->(workS s w).2=0)):=by
 have h0:=startE_zero.1 h
 have hlen:=hF.len
 have hos:∀(s:RunS) (m:MsgS),(sendS s m).over=s.over:=fun s m=>by
  unfold sendS wayS
  dsimp only
  split<;>split<;>rfl
 unfold workS
 rw[if_neg (by rw[workerE_zero h (by omega)];simp),Int.toNat_natCast,List.getElem?_eq_getElem hw]
 dsimp only
 split
 ·rename_i hn
  exact .inr ⟨h,fun x hx ht=>absurd (by obtain rfl:=Option.some.inj hx;exact List.getLast?_eq_none_iff.1 hn) ht⟩
 ·split
  ·exact .inl rfl
  ·split
   ·exact .inr ⟨startE_zero.2 h0,fun _ _ _=>rfl⟩
   ·refine .inr ⟨startE_zero.2 ⟨?_,?_⟩,fun _ _ _=>rfl⟩
    ·rw[sendS_done];exact h0.1
    ·rw[hos];exact h0.2
theorem pass_start{s:RunS}(h:startE s=0)(i:Int):startE (passS s i).1=0:=by
 have h0:=startE_zero.1 h
 refine startE_zero.2 ⟨by rw[passS_done];exact h0.1,?_⟩
 have hos:∀(s:RunS) (m:MsgS),(sendS s m).over=s.over:=fun s m=>by
  unfold sendS wayS
  dsimp only
  split<;>split<;>rfl
 unfold passS
 dsimp only
 repeat' split
 all_goals first|exact h0.2|(show(sendS _ _).over=false;rw[hos];exact h0.2)
theorem tick_start{s:RunS}(h:startE s=0)(i:Int):startE (tickS s i).1=0:=by
 have h0:=startE_zero.1 h
 refine startE_zero.2 ⟨by rw[tickS_done];exact h0.1,?_⟩
 have:∀(L:List LinkS) (s:RunS),(L.foldl againS s).over=s.over:=fun L=>by
  induction L with
  |nil=>exact fun s=>rfl
  |cons l L ih=>
   intro s
   rw[List.foldl_cons,ih]
   unfold againS
   split
   ·exact wayS_over _ _
   ·rfl
 unfold tickS
 split
 ·exact h0.2
 ·rw[this];exact h0.2
theorem work_others(s:RunS)(i:Int){k:Nat}(hk:k≠i.toNat):((workS s i).1.W[k]?).map (·.tasks)=(s.W[k]?).map (·.tasks):=by
 have hs:∀(s:RunS) (m:MsgS),((sendS s m).W[k]?).map (·.tasks)=(s.W[k]?).map (·.tasks):=fun s m=>by
  unfold sendS wayS
  dsimp only
  have e:((s.W.set m.src.toNat {s.W[m.src.toNat]?.getD worker0 with sent:=(s.W[m.src.toNat]?.getD worker0).sent+1})[k]?).map (·.tasks)=(s.W[k]?).map (·.tasks):=by
   rw[List.getElem?_set]
   split
   ·rename_i q
    subst q
    split
    ·rename_i hlt
     rw[List.getElem?_eq_getElem hlt]
     rfl
    ·rename_i hlt
     rw[List.getElem?_eq_none (by omega)]
   ·rfl
  split<;>split<;>first|exact e|rfl
 unfold workS
 dsimp only
 repeat' split
 all_goals first|rfl|(rw[hs];dsimp only;rw[List.getElem?_set_ne (fun e=>hk e.symm)])|(dsimp only;rw[List.getElem?_set_ne (fun e=>hk e.symm)])
theorem pass_others(s:RunS)(i:Int)(k:Nat):((passS s i).1.W[k]?).map (·.tasks)=(s.W[k]?).map (·.tasks):=by
 unfold passS
 split
 ·rfl
 ·split
  ·rfl
  ·rename_i x hx
   split
   ·rfl
   ·dsimp only
    rw[sendS_W _ _ (by show¬((5:Int)=2\/(5:Int)=4);decide),List.getElem?_set]
    split
    ·rename_i q
     subst q
     rw[if_pos (List.getElem?_eq_some_iff.1 hx).1,hx]
     rfl
    ·rfl
theorem again_puts:∀(L:List LinkS) (s:RunS),s.way.length+L.length<=60->(∃t,(L.foldl againS s).way=s.way++t)/\∀l∈L,l.known < (l.all.length:Int)->l.all[l.known.toNat]?.getD msg0∈(L.foldl againS s).way:=by
 intro L
 induction L with
 |nil=>intro s _;exact⟨⟨[],by simp⟩,by simp⟩
 |cons l L ih=>
  intro s hl
  rw[List.length_cons]at hl
  rw[List.foldl_cons]
  have h1:(againS s l).way=s.way++if l.known < (l.all.length:Int)then [l.all[l.known.toNat]?.getD msg0]else []:=by
   unfold againS
   split
   ·unfold wayS
    rw[if_pos (by omega)]
   ·simp
  obtain⟨⟨t,ht⟩,h2⟩:=ih (againS s l) (by
   rw[h1,List.length_append]
   split<;>simp<;>omega)
  refine⟨⟨(if l.known < (l.all.length:Int)then [l.all[l.known.toNat]?.getD msg0]else [])++t,by rw[ht,h1,List.append_assoc]⟩,fun l' h' hlt=> ?_⟩
  rcases List.mem_cons.1 h' with rfl|h'
  ·rw[ht,h1,if_pos hlt]
   exact List.mem_append_left _ (List.mem_append_right _ (List.mem_singleton.2 rfl))
  ·exact h2 l' h' hlt
def Ticked(s0 s:RunS)(i:Nat):Prop:=∀j,j < s.W.length->((linkOf s i j).known=(linkOf s i j).came/\((linkOf s0 i j).all.length:Int)<=(linkOf s0 i j).came)\/∃m∈s.way,m.kind≠0/\m.src=i/\m.dst=j/\m.no=(linkOf s i j).known+1
theorem Ticked.sending{c a:Nat}{s0 s s':RunS}{i:Nat}(h:Ticked s0 s i)(k:Sending c a s s')(hW:s'.W.length=s.W.length):Ticked s0 s' i:=fun j hj=>by
 rcases h j (by omega)with⟨h1,h2⟩|⟨m,hm,h0,h1,h2,h3⟩
 ·exact .inl ⟨by rw[k.known,k.came];exact h1,h2⟩
 ·obtain⟨t,e,-⟩:=k.way
  exact .inr ⟨m,by rw[e];exact List.mem_append_left _ hm,h0,h1,h2,by rw[k.known];exact h3⟩
theorem tick_ticked{N c a:Nat}{s0 s:RunS}(hF:Fine N s)(ht:Told s)(h:startE s=0){i:Nat}(hi:i < s.W.length)(hk:Sending c a s0 s)(hl:s.way.length<=55):Ticked s0 (tickS s i).1 i:=fun j hj=>by
 have hS:=Sending.tick hF (i:Int)
 have hlen:=hF.len
 have h5:=hF.five
 have hWl:(tickS s i).1.W=s.W:=(Same.tick s i).W
 rw[hWl]at hj
 have hok:=hF.links i j hi hj
 have hg:s.links[i]?= some (s.links[i]'(by rw[hF.llen];exact hi)):=List.getElem?_eq_getElem _
 have hrow:(s.links[i]?.getD []).length=s.W.length:=by rw[hg,Option.getD_some];exact hF.lrow _ (List.mem_of_getElem? hg)
 have hmem:linkOf s i j∈s.links[i]?.getD []:=by
  have:(s.links[i]?.getD [])[j]?= some ((s.links[i]?.getD [])[j]'(by omega)):=List.getElem?_eq_getElem _
  unfold linkOf
  rw[this,Option.getD_some]
  exact List.getElem_mem _
 by_cases hlt:(linkOf s i j).known < ((linkOf s i j).all.length:Int)
 ·refine .inr ?_
  have hp:=(again_puts (s.links[i]?.getD []) s (by omega)).2 _ hmem hlt
  have e:(tickS s i).1=(s.links[i]?.getD []).foldl againS s:=by
   unfold tickS
   rw[if_neg (by rw[workerE_zero h (by omega)];simp),Int.toNat_natCast]
  have h0:=hok.known
  have hgm:(linkOf s i j).all[(linkOf s i j).known.toNat]?= some ((linkOf s i j).all[(linkOf s i j).known.toNat]'(by omega)):=List.getElem?_eq_getElem _
  rw[hgm,Option.getD_some]at hp
  have ho:=hok.msgs _ _ hgm
  refine⟨_,by rw[e];exact hp,by have:=ho.kind;omega,ho.src,ho.dst,?_⟩
  rw[hS.known,ho.no]
  omega
 ·refine .inl ?_
  have h1:=ht.known i j
  have h2:=hok.came
  have h3:=(hk.all i j).length_le
  have h4:=hk.came i j
  refine⟨by rw[hS.known,hS.came];omega,by omega⟩
def toldS(s:RunS):List (ByteArray×Int):=if s.done=true then s.values else []
structure RunCalls:Prop where
 tasks:∀(F:Nat->Prop) (B N:Nat) (s:RunS) (i:Int) (w:World),XOK F w B s->Whole N s->Calls Tryz.prog 23 #[.pointer (some ⟨B,0,none⟩),.int .i64 i] w fun e w'=>∃v,e= .returned (.tuple #[v,.int .i64 (tasksS s i).2])/\w'.ownsRow w.heap.size 62 3 v (tasksS s i).1.length ((tasksS s i).1.flatMap taskEnc)/\Below w.heap.size w w'
 messages:∀(F:Nat->Prop) (B N:Nat) (s:RunS) (w:World),XOK F w B s->Whole N s->Calls Tryz.prog 56 #[.pointer (some ⟨B,0,none⟩)] w fun e w'=>∃v,e= .returned (.tuple #[v,.int .i64 0])/\w'.ownsRow w.heap.size 124 15 v s.way.length (s.way.flatMap msgEnc)/\Below w.heap.size w w'
 announced:∀(F:Nat->Prop) (B N:Nat) (did:List ByteArray) (s:RunS) (w:World),XOK F w B s->Whole N s->N+6<=80000000->Play did s->Calls Tryz.prog 20 #[.pointer (some ⟨B,0,none⟩)] w fun e w'=>∃v,e= .returned (.tuple #[v,.bool s.done,.int .i64 0])/\w'.ownsRow w.heap.size 92 2 v (toldS s).length (pairCells (toldS s))/\Below w.heap.size w w'
 work:∀(F:Nat->Prop) (B N:Nat) (s:RunS) (i:Int) (w:World),XOK F w B s->Whole N s->N+6<=80000000->Calls Tryz.prog 22 #[.pointer (some ⟨B,0,none⟩),.int .i64 i] w (XGives F w B (workS s i))
 steal:∀(F:Nat->Prop) (B N:Nat) (s:RunS) (i v:Int) (w:World),XOK F w B s->Whole N s->N+6<=80000000->Calls Tryz.prog 57 #[.pointer (some ⟨B,0,none⟩),.int .i64 i,.int .i64 v] w (XGives F w B (stealS s i v))
 drop:∀(F:Nat->Prop) (B N:Nat) (s:RunS) (i:Int) (w:World),XOK F w B s->Whole N s->N+6<=80000000->Calls Tryz.prog 58 #[.pointer (some ⟨B,0,none⟩),.int .i64 i] w (XGives F w B (dropS s i))
 twice:∀(F:Nat->Prop) (B N:Nat) (s:RunS) (i:Int) (w:World),XOK F w B s->Whole N s->N+6<=80000000->Calls Tryz.prog 59 #[.pointer (some ⟨B,0,none⟩),.int .i64 i] w (XGives F w B (twiceS s i))
 tick:∀(F:Nat->Prop) (B N:Nat) (s:RunS) (i:Int) (w:World),XOK F w B s->Whole N s->N+6<=80000000->Calls Tryz.prog 40 #[.pointer (some ⟨B,0,none⟩),.int .i64 i] w (XGives F w B (tickS s i))
 deliver:∀(F:Nat->Prop) (B N:Nat) (s:RunS) (i:Int) (w:World),XOK F w B s->Whole N s->N+6<=80000000->Calls Tryz.prog 41 #[.pointer (some ⟨B,0,none⟩),.int .i64 i] w (XGives F w B (deliverS s i))
 pass:∀(F:Nat->Prop) (B N:Nat) (s:RunS) (i:Int) (w:World),XOK F w B s->Whole N s->N+6<=80000000->Calls Tryz.prog 39 #[.pointer (some ⟨B,0,none⟩),.int .i64 i] w (XGives F w B (passS s i))
 check:∀(F:Nat->Prop) (B N:Nat) (s:RunS) (w:World),XOK F w B s->Whole N s->N+6<=80000000->Calls Tryz.prog 19 #[.pointer (some ⟨B,0,none⟩)] w (XGives F w B (checkS s))
structure MoveS where
 k:Int
 w:Int
 v:Int
 i:Int
def placeS(s:RunS)(i:Int):Int:=if s.way=[]then 0 else pickS i s.way.length
def moveS(s:RunS)(m:MoveS):RunS×Int:=
 if pickS m.k 12 < 3 then workS s (pickS m.w s.workers)
 else if pickS m.k 12 < 5 then stealS s (pickS m.w s.workers) ((pickS m.w s.workers+1+pickS m.v (s.workers - 1)) % s.workers)
 else if pickS m.k 12 < 8 then deliverS s (placeS s m.i)
 else if pickS m.k 12=8 then(if pickS m.v 2=0 then dropS s (placeS s m.i)else twiceS s (placeS s m.i))
 else if pickS m.k 12=9 then tickS s (pickS m.w s.workers)
 else if pickS m.k 12=10 then passS s (pickS m.w s.workers)
 else checkS s
theorem Whole.move{N:Nat}{s:RunS}(h:Whole N s)(hN:N+6<=80000000)(m:MoveS):Whole (N+6) (moveS s m).1:=by
 unfold moveS
 repeat' split
 ·exact(h.work _).more (by omega)
 ·exact(h.steal _ _).more (by omega)
 ·exact(h.deliver (by omega) _).more (by omega)
 ·exact(h.drop _).more (by omega)
 ·exact(h.twice _).more (by omega)
 ·exact(h.tick _).more (by omega)
 ·exact(h.pass (by omega) _).more (by omega)
 ·exact h.check (by omega)
theorem Stays.move(s:RunS)(m:MoveS):Stays s (moveS s m).1:=by
 unfold moveS
 repeat' split
 ·exact .work _ _
 ·exact .steal _ _ _
 ·exact .deliver _ _
 ·exact .drop _ _
 ·exact .twice _ _
 ·exact .tick _ _
 ·exact .pass _ _
 ·exact .check _
def youngS(s:RunS)(w:Int):Option ByteArray:=(tasksS s w).1.getLast?.map (·.id)
def didS(s:RunS)(m:MoveS)(did:List ByteArray):List ByteArray:=
 if pickS m.k 12 < 3/\(moveS s m).2=0 then did++(youngS s (pickS m.w s.workers)).toList else did
theorem Play.move{N:Nat}{s:RunS}{did:List ByteArray}(h:Play did s)(hf:Fine N s)(hN:N+6<=80000000)(m:MoveS):Play (didS s m did) (moveS s m).1:=by
 unfold didS
 by_cases hk:pickS m.k 12 < 3
 ·have e:moveS s m=workS s (pickS m.w s.workers):=by unfold moveS;rw[if_pos hk]
  rw[e]
  have h2:=hf.two
  have hp:=pickS_range m.w s.workers (by omega)
  rcases h.work hf (pickS m.w s.workers)with⟨h0,h1⟩|⟨h0,x,t,hx,ht,h1⟩
  ·rw[if_neg (fun q=>h0 q.2)]
   exact h1
  ·rw[if_pos ⟨hk,h0⟩]
   have e2:youngS s (pickS m.w s.workers)=some t.id:=by
    unfold youngS tasksS
    rw[if_neg (by omega),hx]
    show(x.tasks.getLast?).map (·.id)=_
    rw[ht]
    rfl
   rw[e2]
   exact h1
 ·rw[if_neg (fun q=>hk q.1)]
  unfold moveS
  rw[if_neg hk]
  repeat' split
  ·exact h.steal hf _ _
  ·exact h.deliver hf (by omega) _
  ·exact h.drop _
  ·exact h.twice _
  ·exact h.tick _
  ·exact h.pass hf _
  ·exact h.check hf (by omega)
def gameCells(B:Nat)(s:RunS)(kv av dv:Value)(over done:Bool):Array Value:=#[.pointer (some ⟨B,0,none⟩),.int .i64 s.workers,.int .i64 s.room,.int .i64 s.mode,kv,.int .i64 s.kind,.int .i64 s.arg,av,dv,.bool over,.bool done]
def allS(s:RunS):List (ByteArray×Int):=pairsOf s.ks (allTasks s.ks s.kind s.arg)
theorem Stays.all{s s':RunS}(h:Stays s s'):allS s'=allS s:=by unfold allS;rw[h.ks,h.kind,h.arg]
structure GameAt(base:Nat)(own:Nat->Nat)(W:World)(G B:Nat)(s:RunS)(ka:Option Addr)(kc:Nat)(av dv:Value)(did:List ByteArray)(over done:Bool):Prop where
 new:∀b,own b≠0->base<=b
 box:BoxAt W G 45 (gameCells B s (.slice ka s.ks.length kc) av dv over done)
 gown:own G=1
 run:XOK (fun b=>own b=2) W B s
 kinds:KindsAt (fun b=>own b=3) W (.slice ka s.ks.length kc) s.ks
 all:W.ownsRow base 92 2 av (allS s).length (pairCells (allS s))
 aown:∀g,av.ownBlock=some g->own g=4
 did:W.ownsRow base 9 1 dv did.length (did.map Value.string)
 down:∀g,dv.ownBlock=some g->own g=5
section
variable {base:Nat} {own:Nat->Nat} {W W':World} {G B:Nat} {s s':RunS} {ka:Option Addr} {kc:Nat} {av dv:Value} {did:List ByteArray} {over done:Bool}
theorem GameAt.later(h:GameAt base own W G B s ka kc av dv did over done)(hb:Below W.heap.size W W'):GameAt base (fun g=>if g < W.heap.size then own g else 0) W' G B s ka kc av dv did over done:=by
 have hk:Kept (fun b=>W.heap.size<=b) W W':=Kept.of_below hb (fun _ _ h=>h)
 refine⟨fun g hg=> ?_,h.box.kept hk (by have:=h.box.lt;omega),?_,h.run.kept hk (fun g hl hg=>⟨by omega,by simp[hl,hg]⟩),?_,row_later h.all hb,fun g e=> ?_,row_later h.did hb,fun g e=> ?_⟩
 ·by_cases hl:g < W.heap.size
  ·exact h.new g (by simpa[hl]using hg)
  ·simp[hl]at hg
 ·have:=h.box.lt
  simp[this,h.gown]
 ·refine(h.kinds.below.kept hk (fun b h1 h2=>by omega)).mono (fun b hb=> ?_)
  simp[hb.2,hb.1]
 ·have:=(h.all.lt g e).2
  simp[this,h.aown g e]
 ·have:=(h.did.lt g e).2
  simp[this,h.down g e]
theorem GameAt.ran(h:GameAt base own W G B s ka kc av dv did over done)(hbase:base<=W.heap.size)(hk:Kept (fun b=>own b=2) W W')(hx:XOK (fun b=>own b=2\/W.heap.size<=b) W' B s')(hs:Stays s s'):GameAt base (fun g=>if g < W.heap.size then own g else 2) W' G B s' ka kc av dv did over done:=by
 have e:gameCells B s' (.slice ka s'.ks.length kc) av dv over done=gameCells B s (.slice ka s.ks.length kc) av dv over done:=by
  unfold gameCells
  rw[hs.workers,hs.room,hs.mode,hs.ks,hs.kind,hs.arg]
 refine⟨fun g hg=> ?_,?_,?_,hx.kept (Kept.refl (fun _=>False) W') (fun g _ hg=>⟨fun h=>h,?_⟩),?_,?_,fun g e=> ?_,?_,fun g e=> ?_⟩
 ·by_cases hl:g < W.heap.size
  ·exact h.new g (by simpa[hl]using hg)
  ·omega
 ·rw[e]
  exact h.box.kept hk (by have:=h.gown;omega)
 ·have:=h.box.lt
  simp[this,h.gown]
 ·by_cases hl:g < W.heap.size
  ·rcases hg with hg|hg
   ·simp[hl,hg]
   ·omega
  ·simp[hl]
 ·rw[hs.ks]
  refine(h.kinds.below.kept hk (fun b h1 h2=>by omega)).mono (fun b hb=> ?_)
  simp[hb.2,hb.1]
 ·rw[hs.all]
  exact row_kept h.all hk (fun g e hg=>by have:=h.aown g e;omega) (Nat.le_refl _)
 ·have:=(h.all.lt g e).2
  simp[this,h.aown g e]
 ·exact row_kept h.did hk (fun g e hg=>by have:=h.down g e;omega) (Nat.le_refl _)
 ·have:=(h.did.lt g e).2
  simp[this,h.down g e]
theorem GameAt.wrote{dv':Value}{did':List ByteArray}{over' done':Bool}(h:GameAt base own W G B s ka kc av dv did over done)(hbase:base<=W.heap.size)(hk:Kept (fun b=>own b=1\/own b=5) W W')(hb:BoxAt W' G 45 (gameCells B s (.slice ka s.ks.length kc) av dv' over' done'))(hd:W'.ownsRow base 9 1 dv' did'.length (did'.map Value.string))(hdo:∀g,dv'.ownBlock=some g->own g=5\/W.heap.size<=g):GameAt base (fun g=>if g < W.heap.size then own g else 5) W' G B s ka kc av dv' did' over' done':=by
 refine⟨fun g hg=> ?_,hb,?_,h.run.kept hk (fun g hl hg=>⟨by omega,by simp[hl,hg]⟩),?_,row_kept h.all hk (fun g e hg=>by have:=h.aown g e;omega) (Nat.le_refl _),fun g e=> ?_,hd,fun g e=> ?_⟩
 ·by_cases hl:g < W.heap.size
  ·exact h.new g (by simpa[hl]using hg)
  ·omega
 ·have:=h.box.lt
  simp[this,h.gown]
 ·refine(h.kinds.below.kept hk (fun b h1 h2=>by omega)).mono (fun b hb=> ?_)
  simp[hb.2,hb.1]
 ·have:=(h.all.lt g e).2
  simp[this,h.aown g e]
 ·by_cases hl:g < W.heap.size
  ·rcases hdo g e with q|q
   ·simp[hl,q]
   ·omega
  ·simp[hl]
end
def IdsAt(W:World)(a:Option Addr)(l:List ByteArray):Prop:=∀(j:Nat) x,l[j]?= some x->∃g o,a=some ⟨g,o,none⟩/\g < W.heap.size/\W.cell? ⟨g,o+j,none⟩=some (.string x)
theorem IdsAt.later{W W':World}{a:Option Addr}{l:List ByteArray}(h:IdsAt W a l)(hb:Below W.heap.size W W'):IdsAt W' a l:=by
 intro j x hj
 obtain⟨g,o,ha,hg,hc⟩:=h j x hj
 exact⟨g,o,ha,Nat.lt_of_lt_of_le hg hb.size,(hb.cell (p:=⟨g,_,none⟩) hg).trans hc⟩
theorem IdsAt.take{W:World}{a:Option Addr}{l:List ByteArray}(h:IdsAt W a l)(n:Nat):IdsAt W a (l.take n):=by
 intro j x hj
 rw[List.getElem?_take]at hj
 split at hj
 ·exact h j x hj
 ·cases hj
theorem ids_of_row{W:World}{base e:Nat}{a:Option Addr}{n c:Nat}{l:List ByteArray}(h:W.ownsRow base e 1 (.slice a n c) n (l.map Value.string)):IdsAt W a l:=by
 obtain⟨a',c',e,hc⟩:=row_slice h
 cases e
 intro j x hj
 obtain⟨g,rfl,-,hg,hcell⟩:=hc j (.string x) (by rw[List.getElem?_map,hj];rfl)
 exact⟨g,0,rfl,hg,by rw[Nat.zero_add];exact hcell⟩
theorem bytes_eq(a b:ByteArray):(a.toList==b.toList)=decide (a=b):=by
 by_cases h:a=b
 ·subst h
  simp
 ·rw[decide_eq_false h,beq_eq_false_iff_ne]
  intro e
  rw[ByteArray.toList_eq,ByteArray.toList_eq]at e
  refine h ?_
  cases a
  cases b
  simp at e
  rw[e]
def inB(l:List ByteArray)(id:ByteArray):Bool:=l.any fun x=>decide (x=id)
theorem inB_iff{l:List ByteArray}{id:ByteArray}:inB l id=true ↔ id∈l:=by
 unfold inB
 rw[List.any_eq_true]
 constructor
 ·rintro⟨x,hx,e⟩
  rw[<-of_decide_eq_true e]
  exact hx
 ·intro h
  exact⟨id,h,decide_eq_true rfl⟩
set_option maxHeartbeats 4000000 in
set_option maxRecDepth 100000 in
theorem khas_calls(a:Option Addr)(cap:Nat)(l:List ByteArray)(id:ByteArray)(w:World)(ha:IdsAt w a l)(hl:l.length<=9223372036854775806) :
  Calls Tryz.prog 38 #[.slice a l.length cap,.string id] w fun e w'=>e= .returned (.bool (inB l id))/\w=w':=by
 have HA:=hid_of ha
 clear ha
 go_enter Tryz.func38,Tryz.ntmps38
 go_wp2_with fail
 go_loopw [5] (fun i wr=>∃k:Nat,k<=l.length/\i= .int .i64 k/\w=wr/\∀j x,j < k->l[j]?= some x->x≠id) (fun i _=>l.length - (intOf i).toNat)
 case atStart=>exact⟨0,Nat.zero_le _,rfl,rfl,fun j x h=>absurd h (by omega)⟩
 case round=>
  obtain⟨k,hk,rfl,rfl,hno⟩:=hrel
  by_cases hlt:k < l.length
  ·obtain⟨x,hx⟩:∃x,l[k]?= some x:=⟨_,List.getElem?_eq_getElem hlt⟩
   obtain⟨g,o,rfl,hgl,hc⟩:=HA.out k x hx
   have i1:(0:Int)<=(k:Int):=by omega
   have i2:(k:Int) < (l.length:Int):=by omega
   have hb:=bytes_eq x id
   have HX:=hid_of hx
   have HN:=hid_of hno
   clear hx hno
   by_cases he:x=id
   ·rw[decide_eq_true he]at hb
    go_wp2_with fail
    go_ret
    refine⟨?_,rfl⟩
    rw[show inB l id=true from inB_iff.2 (by rw[<-he];exact List.mem_of_getElem? HX.out)]
    rfl
   ·rw[decide_eq_false he]at hb
    go_wp2_with fail
    go_roundw
    case rel=>exact⟨k+1,by omega,by go_num,by first|rfl|trivial,fun j y hj hy=>by
     by_cases e:j=k
     ·subst e
      rw[HX.out]at hy
      obtain rfl:=Option.some.inj hy
      exact he
     ·exact HN.out j y (by omega) hy⟩
    case measure=>simp[intOf];omega
  ·go_wp2_with fail
   go_ret
   refine⟨?_,rfl⟩
   rw[show inB l id=false by
    rw[Bool.eq_false_iff]
    intro hm
    obtain⟨j,hj⟩:=List.mem_iff_getElem?.1 (inB_iff.1 hm)
    exact hno j id (by have:=(List.getElem?_eq_some_iff.1 hj).1;omega) hj rfl]
   rfl
set_option maxHeartbeats 4000000 in
set_option maxRecDepth 100000 in
theorem young_calls(H:RunCalls){base:Nat}{own:Nat->Nat}{G B N:Nat}{s:RunS}{ka:Option Addr}{kc:Nat}{av dv:Value}{did:List ByteArray}{over done:Bool}(i:Int){w:World}(h:GameAt base own w G B s ka kc av dv did over done)(hW:Whole N s) :
  Calls Tryz.prog 36 #[.pointer (some ⟨G,0,none⟩),.int .i64 i] w fun e w'=>∃v,e= .returned v/\(v= .tuple #[.string ((youngS s i).getD ⟨#[]⟩),.bool (youngS s i).isSome]/\Below w.heap.size w w'):=by
 have g0:=h.box.cell (o:=0) rfl
 have HT:=hid_of (H.tasks _ B N s i w h.run hW)
 have HY:Hid (youngS s i=(tasksS s i).1.getLast?.map (·.id)):=rfl
 have hfew:(tasksS s i).1.length<=90000000:=by
  unfold tasksS
  split
  ·simp
  ·cases hx:s.W[i.toNat]? with
   |none=>simp
   |some x=>
    have h1:=hW.steady.pol.room _ x hx
    have h2:=hW.fine.rmax
    simp
    omega
 generalize (tasksS s i).1=l at *
 generalize (tasksS s i).2=er at *
 clear h
 rcases List.eq_nil_or_concat l with rfl|⟨L,t,rfl⟩
 ·go_enter Tryz.func36,Tryz.ntmps36
  go_wp2_with (first
   |(go_at_call 23;refine HT.out.mono ?_;rintro e w1 ⟨v,rfl,hv,hb1⟩
     obtain⟨va,vc,rfl⟩:=row_form hv
     have HB1:=hid_of hb1
     clear hv hb1))
  refine bodyPost_ret (v:= .tuple #[.string ⟨#[]⟩,.bool false]) (by simp[results,Tryz.results36,go_sem]) rfl ⟨_,rfl,?_,HB1.out⟩
  rw[HY.out]
  rfl
 ·rw[List.concat_eq_append]at *
  have hn:((L++ [t]).length:Int)=(L.length:Int)+1:=by simp
  have hz:(((L++ [t]).length:Int)==0)=false:=by rw[beq_eq_false_iff_ne];omega
  have i1:(0:Int)<=(L.length:Int):=by omega
  have i2:(L.length:Int) < ((L++ [t]).length:Int):=by omega
  have i3:((L++ [t]).length:Int) - 1=(L.length:Int):=by omega
  go_enter Tryz.func36,Tryz.ntmps36
  go_wp2_with (first
   |(go_at_call 23;refine HT.out.mono ?_;rintro e w1 ⟨v,rfl,hv,hb1⟩
     obtain⟨g1,cap1,hgf,hg1,hg2⟩:=World.ownsRow.form hv (by simp)
     cases hgf
     have c0:w1.cell? ⟨g1,L.length*3,none⟩=some (.string t.id):=by
      have h1:=hv.cells (g:=g1) rfl (L.length*3) (.string t.id) (by
       exact flat_get (sz:=3) (enc:=taskEnc) (fun _=>rfl) (L++ [t]) L.length t 0 _ (by simp) rfl)
      rw[Addr.add_lit,Nat.zero_add]at h1
      exact h1
     have HB1:=hid_of hb1
     clear hv hb1))
  refine bodyPost_ret (v:= .tuple #[.string t.id,.bool true]) (by simp[results,Tryz.results36,go_sem]) rfl ⟨_,rfl,?_,HB1.out⟩
  rw[HY.out]
  simp
theorem workerE_at{s:RunS}(hd:s.done=true)(i:Int):workerE s i=5:=by
 unfold workerE startE
 simp[hd]
theorem work_done{s:RunS}(hd:s.done=true)(i:Int):workS s i=(s,5):=by
 unfold workS
 rw[workerE_at hd,if_pos (by decide)]
theorem check_done{s:RunS}(hd:s.done=true):checkS s=(s,5):=by
 unfold checkS startE
 simp[hd]
theorem tasks_rest{s:RunS}(h:∀x∈s.W,x.tasks=[]){i:Int}(h0:0<=i)(h1:i < s.workers):tasksS s i=([],0):=by
 unfold tasksS
 rw[if_neg (by omega)]
 cases hx:s.W[i.toNat]? with
 |none=>rfl
 |some x=>simp[h x (List.mem_of_getElem? hx)]
set_option maxHeartbeats 8000000 in
set_option maxRecDepth 100000 in
theorem kannounced_calls(H:RunCalls){base:Nat}{own:Nat->Nat}{G B N:Nat}{s:RunS}{ka:Option Addr}{kc:Nat}{av dv:Value}{did:List ByteArray}{over done:Bool}{w:World}(h:GameAt base own w G B s ka kc av dv did over done)(hW:Whole N s)(hN:N+6<=80000000)(hp:Play did s)(hbase:base<=w.heap.size)(hfew:(allTasks s.ks s.kind s.arg).length<=200) :
  Calls Tryz.prog 16 #[.pointer (some ⟨G,0,none⟩)] w fun e w'=>e= .returned (.bool true)/\∃own',GameAt base own' w' G B s ka kc av dv did over done/\Below base w w':=by
 have HAN:=hid_of (H.announced _ B N did s w h.run hW hN hp)
 have g0:w.cell? ⟨G,0,none⟩=some (.pointer (some ⟨B,0,none⟩)):=h.box.cell (o:=0) rfl
 have hall:(allS s).length<=200:=by unfold allS;rw[pairsOf_length];exact hfew
 by_cases hd:s.done=true
 ·have hpa:=hp.announced hW.fine hd
  have e1:toldS s=allS s:=by unfold toldS allS;rw[if_pos hd,hpa.1]
  have hlen:did.length=(allS s).length:=by unfold allS;rw[pairsOf_length];exact hpa.2.1
  obtain⟨aa,ac,rfl⟩:=row_form h.all
  obtain⟨da,dc,rfl⟩:=row_form h.did
  have HREST:=hid_of hpa.2.2
  rw[e1,hd]at HAN
  have HG:=hid_of h
  have HPAIR:=hid_of (pairs_of_row h.all).2
  have h2:=hW.fine.two
  have h5:=hW.fine.five
  have HWh:=hid_of hW
  have HD:=hid_of hd
  obtain⟨n,hn⟩:∃n,s.workers=n:=⟨_,rfl⟩
  rw[hn]at h2 h5
  obtain⟨q,hq⟩:∃q:Nat,(q:Int)=n:=⟨n.toNat,by omega⟩
  have HN:=hid_of hn
  have HLEN:=hid_of hlen
  obtain⟨L,hL⟩:∃L,allS s=L:=⟨_,rfl⟩
  rw[hL]at HAN HPAIR hall HLEN
  have HL:=hid_of hL
  clear h hW hp hpa e1 hlen hd hn hL
  go_enter Tryz.func16,Tryz.ntmps16
  go_upto_region 2 with(go_at_call 20;refine HAN.out.mono ?_;rintro e w1 ⟨v,rfl,hv,hb1⟩)
  obtain⟨va,vc,rfl⟩:=row_form hv
  have HPV:=hid_of (pairs_of_row hv).2
  have hG1:=HG.out.later hb1
  have HB1:=hid_of hb1
  obtain⟨own1,ho1⟩:∃own1,(fun g=>if g < w.heap.size then own g else 0)=own1:=⟨_,rfl⟩
  rw[ho1]at hG1
  have g7:w1.cell? ⟨G,7,none⟩=some (.slice aa L.length ac):=by rw[<-HL.out];exact hG1.box.cell (o:=7) rfl
  have g8:w1.cell? ⟨G,8,none⟩=some (.slice da L.length dc):=by rw[<-HLEN.out];exact hG1.box.cell (o:=8) rfl
  have HP1:Hid (PairsAt w1 (.slice aa L.length ac) L):=HPAIR.out.below hb1 (Nat.le_refl _)
  have HG1:=hid_of hG1
  have s1:=hb1.size
  have hgl:=hG1.box.lt
  clear hv hb1 hG1 HPAIR HAN g0
  have hs:=valueHeld
  have hg:=valueGuard
  go_upto_region 4 with fail
  go_quiet (fail)
  go_wp2_with fail
  go_loopw [6] (fun i wr=>∃k:Nat,k<=L.length/\i= .int .i64 k/\Below w1.heap.size w1 wr) (fun i _=>L.length - (intOf i).toNat)
  case atStart=>exact⟨0,Nat.zero_le _,rfl,below_drewN (Below.refl _ _) _⟩
  case round=>
   obtain⟨k,hk,rfl,hbw⟩:=hrel
   by_cases hlt:k < L.length
   ·obtain⟨x,hx⟩:∃x,L[k]?= some x:=⟨_,List.getElem?_eq_getElem hlt⟩
    obtain⟨a1,c1,e1,hc1⟩:=HP1.out
    cases e1
    obtain⟨a2,c2,e2,hc2⟩:=HPV.out
    cases e2
    obtain⟨y1,o1,rfl,hy1,x0,x1⟩:=hc1 k x hx
    obtain⟨y2,o2,rfl,hy2,x2,x3⟩:=hc2 k x hx
    have d0:=(hbw.cell (p:=⟨y1,o1+k*2,none⟩) hy1).trans x0
    have d1:=(hbw.cell (p:=⟨y1,o1+k*2+1,none⟩) hy1).trans x1
    have d2:=(hbw.cell (p:=⟨y2,o2+k*2,none⟩) hy2).trans x2
    have d3:=(hbw.cell (p:=⟨y2,o2+k*2+1,none⟩) hy2).trans x3
    have d7:=(hbw.cell (p:=⟨G,7,none⟩) (by show G < w1.heap.size;omega)).trans g7
    have i1:(0:Int)<=(k:Int):=by omega
    have i2:(k:Int) < (L.length:Int):=by omega
    clear hc1 hc2 x0 x1 x2 x3 g7 g8
    go_wp2_with fail
    go_quiet (fail)
    go_wp2_with fail
    go_roundw
    case rel=>exact⟨k+1,by omega,by go_num,below_drewN hbw _⟩
    case measure=>simp[intOf];omega
   ·have hG2:=HG1.out.later hbw
    have hb2:Below base w wr:=(HB1.out.mono hbase).trans (hbw.mono (by omega))
    have s2:=hbw.size
    have HG2:=hid_of hG2
    have HB2:=hid_of hb2
    clear hG2 hb2 hbw g7 g8 hs hg
    go_wp2_with fail
    go_loopw [7] (fun i wx=>∃(k:Nat) (own':Nat->Nat),k<=q/\i= .int .i64 k/\GameAt base own' wx G B s ka kc (.slice aa (allS s).length ac) (.slice da did.length dc) did over done/\Below base w wx) (fun i _=>q - (intOf i).toNat)
    case atStart=>exact⟨0,_,Nat.zero_le _,rfl,HG2.out,HB2.out⟩
    case round=>
     obtain⟨k,own3,hk,rfl,hG3,hb3⟩:=hrel
     have s3:=hb3.size
     have p0:wr.cell? ⟨G,0,none⟩=some (.pointer (some ⟨B,0,none⟩)):=hG3.box.cell (o:=0) rfl
     have p1:wr.cell? ⟨G,1,none⟩=some (.int .i64 n):=by rw[<-HN.out];exact hG3.box.cell (o:=1) rfl
     by_cases hlt:k < q
     ·have i1:(k:Int) < n:=by omega
      have hte:=tasks_rest HREST.out (i:=(k:Int)) (by omega) (by rw[HN.out];exact i1)
      have hT:=H.tasks _ B N s k wr hG3.run HWh.out
      rw[hte]at hT
      have HT:=hid_of hT
      have HG3:=hid_of hG3
      have HB3:=hid_of hb3
      have hgl3:=hG3.box.lt
      clear hT hte hG3 hb3
      go_wp2_with (first
       |(go_at_call 23;refine HT.out.mono ?_;rintro e w5 ⟨v5,rfl,hv5,hb5⟩
         obtain⟨a5,c5,rfl⟩:=row_form hv5
         have s5:=hb5.size
         have p0':=(hb5.cell (p:=⟨G,0,none⟩) (by show G < wr.heap.size;omega)).trans p0
         have hG5:=HG3.out.later hb5
         have hwk:=H.work _ B N s (k:Int) w5 hG5.run HWh.out hN
         rw[work_done HD.out]at hwk
         have HWK:=hid_of hwk
         have HG5:=hid_of hG5
         have HB5:=hid_of hb5
         clear hv5 hG5 hb5 hwk p0 p1)
       |(go_at_call 22;refine HWK.out.mono ?_;rintro e w6 ⟨rfl,hx6,hk6⟩
         have HX6:=hid_of hx6
         have HK6:=hid_of hk6
         clear hx6 hk6))
      go_roundw
      case rel=>
       have hG6:=HG5.out.ran (by omega) HK6.out HX6.out (Stays.refl s)
       exact⟨k+1,_,by omega,by go_num,hG6,(HB3.out.trans (HB5.out.mono (by omega))).trans (HK6.out.below (by omega) (fun g e=>HG5.out.new g (by omega)))⟩
      case measure=>simp[intOf];omega
     ·have i1:¬(k:Int) < n:=by omega
      have hck:=H.check _ B N s wr hG3.run HWh.out hN
      rw[check_done HD.out]at hck
      have HCK:=hid_of hck
      have HG3:=hid_of hG3
      have HB3:=hid_of hb3
      clear hck hG3 hb3
      go_wp2_with (go_at_call 19;refine HCK.out.mono ?_;rintro e w6 ⟨rfl,hx6,hk6⟩)
      go_ret
      exact⟨rfl,_,HG3.out.ran (by omega) hk6 hx6 (Stays.refl s),HB3.out.trans (hk6.below (by omega) (fun g e=>HG3.out.new g (by omega)))⟩
 ·have hd':s.done=false:=by simpa using hd
  have e1:toldS s=[]:=by unfold toldS;rw[if_neg hd]
  rw[e1,hd']at HAN
  have HG:=hid_of h
  clear h hW hp hd hd' e1
  go_enter Tryz.func16,Tryz.ntmps16
  go_wp2_with (go_at_call 20;refine HAN.out.mono ?_;rintro e w1 ⟨v,rfl,hv,hb1⟩;obtain⟨va,vc,rfl⟩:=row_form hv;have HB1:=hid_of hb1;clear hv hb1)
  go_ret
  exact⟨rfl,_,HG.out.later HB1.out,HB1.out.mono hbase⟩
end Go.Proofs.YtfanaanofjhlkaaGreatDoor
