import Derived.Test.YtfanaanofjhlkaaGreatDoorMicro
import Derived.Test.YtfanaanofjhlkaaGreatDoorTwins
namespace Go.Proofs.YtfanaanofjhlkaaGreatDoor
open Go Go.RowKit
def dif(x:WorkerS):Int:=x.sent - x.came
def upto(t:Nat)(s:RunS):Int:=((s.W.take (t+1)).map dif).sum
def beyond(t:Nat)(s:RunS):Int:=((s.W.drop (t+1)).map dif).sum
theorem upto_beyond(t:Nat)(s:RunS):upto t s+beyond t s=bal s:=by
 have h:bal s=(s.W.map dif).sum:=rfl
 rw[h]
 unfold upto beyond
 rw[<-List.sum_append,<-List.map_append,List.take_append_drop]
theorem upto_set{s:RunS}{t i:Nat}{x x':WorkerS}(hx:s.W[i]?= some x):upto t {s with W:=s.W.set i x'}=if i<=t then upto t s+dif x' - dif x else upto t s:=by
 unfold upto
 dsimp only
 rw[List.take_set]
 by_cases h:i<=t
 ·rw[if_pos h]
  have h1:(s.W.take (t+1))[i]?= some x:=by rw[List.getElem?_take,if_pos (by omega)];exact hx
  have:=isum_set dif _ i x' x h1
  omega
 ·rw[if_neg h,List.set_eq_of_length_le (by rw[List.length_take];omega)]
theorem beyond_set{s:RunS}{t i:Nat}{x x':WorkerS}(hx:s.W[i]?= some x):beyond t {s with W:=s.W.set i x'}=if i<=t then beyond t s else beyond t s+dif x' - dif x:=by
 have h1:=upto_beyond t s
 have h2:=upto_beyond t {s with W:=s.W.set i x'}
 have h3:=bal_set x' hx
 have h4:=upto_set (t:=t) (x':=x') hx
 have e1:dif x=x.sent - x.came:=rfl
 have e2:dif x'=x'.sent - x'.came:=rfl
 split
 ·rename_i h;rw[if_pos h]at h4;omega
 ·rename_i h;rw[if_neg h]at h4;omega
def Safra(s:RunS)(t:Nat)(q:Int)(b:Bool):Prop:=
 ((∀i x,t < i->s.W[i]?= some x->x.tasks=[])/\q=beyond t s)\/0 < upto t s+q\/(∃i x,i<=t/\s.W[i]?= some x/\x.black=true)\/b=true
theorem Safra.congr{s s':RunS}{t:Nat}{q:Int}{b:Bool}(h:Safra s t q b)(e:s'.W=s.W):Safra s' t q b:=by
 unfold Safra upto beyond at *
 rw[e]
 exact h
theorem Safra.set{s:RunS}{t i:Nat}{q:Int}{b:Bool}{x x':WorkerS}(h:Safra s t q b)(hx:s.W[i]?= some x)(hb:x.black=true->x'.black=true)(hd:dif x<=dif x')(hc:x.tasks≠ []\/(x'.tasks=[]/\dif x'=dif x)):Safra {s with W:=s.W.set i x'} t q b:=by
 have hil:=(List.getElem?_eq_some_iff.1 hx).1
 have hget:∀k y,(s.W.set i x')[k]?= some y->k≠i->s.W[k]?= some y:=fun k y hy hk=>by rwa [List.getElem?_set_ne (fun e=>hk e.symm)]at hy
 have hu:=upto_set (t:=t) (x':=x') hx
 have hv:=beyond_set (t:=t) (x':=x') hx
 rcases h with⟨hA,hq⟩|hB|⟨k,y,hk,hy,hbl⟩|hD
 ·by_cases hi:i<=t
  ·refine .inl ⟨fun k y hk hy=>hA k y hk (hget k y hy (by omega)),?_⟩
   rw[if_pos hi]at hv
   rw[hv];exact hq
  ·have hx0:=hA i x (by omega) hx
   rcases hc with hc|⟨hc1,hc2⟩
   ·exact absurd hx0 hc
   ·refine .inl ⟨fun k y hk hy=> ?_,?_⟩
    ·by_cases e:k=i
     ·subst e
      have hy':(s.W.set k x')[k]?= some y:=hy
      rw[List.getElem?_set_self hil]at hy'
      obtain rfl:=Option.some.inj hy'
      exact hc1
     ·exact hA k y hk (hget k y hy e)
    ·rw[if_neg hi]at hv
     rw[hv];omega
 ·refine .inr (.inl ?_)
  split at hu<;>omega
 ·refine .inr (.inr (.inl ?_))
  by_cases e:k=i
  ·subst e
   rw[hx]at hy
   obtain rfl:=Option.some.inj hy
   exact⟨k,x',hk,List.getElem?_set_self hil,hb hbl⟩
  ·exact⟨k,y,hk,by rw[List.getElem?_set_ne (fun e'=>e e'.symm)];exact hy,hbl⟩
 ·exact .inr (.inr (.inr hD))
theorem Safra.work{s:RunS}{t i:Nat}{q:Int}{b:Bool}{x x':WorkerS}(h:Safra s t q b)(hx:s.W[i]?= some x)(hb:x'.black=true)(hbal:0 < bal s):Safra {s with W:=s.W.set i x'} t q b:=by
 have hil:=(List.getElem?_eq_some_iff.1 hx).1
 have hu:=upto_set (t:=t) (x':=x') hx
 have hs:=upto_beyond t s
 by_cases hi:i<=t
 ·exact .inr (.inr (.inl ⟨i,x',hi,List.getElem?_set_self hil,hb⟩))
 ·rw[if_neg hi]at hu
  rcases h with⟨hA,hq⟩|hB|⟨k,y,hk,hy,hbl⟩|hD
  ·exact .inr (.inl (by rw[hu];omega))
  ·exact .inr (.inl (by rw[hu];exact hB))
  ·exact .inr (.inr (.inl ⟨k,y,hk,by rw[List.getElem?_set_ne (by omega)];exact hy,hbl⟩))
  ·exact .inr (.inr (.inr hD))
def tok(m:MsgS):Nat:=if m.kind=5 then 1 else 0
def hasN(x:WorkerS):Nat:=if x.has=true then 1 else 0
def held(s:RunS):Nat:=(s.W.map hasN).sum
def Under(s:RunS)(i j:Nat)(m:MsgS):Prop:=i < s.W.length/\j < s.W.length/\∃k,(linkOf s i j).came.toNat<=k/\(linkOf s i j).all[k]?= some m
theorem mem_sum{α:Type}(g:α->Nat):∀(l:List α) (x:α),x∈l->g x<=(l.map g).sum
 |[],_,h=>by simp at h
 |a :: r,x,h=>by
  rw[List.map_cons,List.sum_cons]
  rcases List.mem_cons.1 h with rfl|h
  ·omega
  ·have:=mem_sum g r x h;omega
theorem Under.weigh{s:RunS}{i j:Nat}{m:MsgS}(h:Under s i j m)(hl:s.links.length=s.W.length)(hr:∀ls∈s.links,ls.length=s.W.length)(f:MsgS->Nat):f m<=total f s:=by
 obtain⟨hi,hj,k,hk,hm⟩:=h
 have h1:s.links[i]?= some s.links[i]:=List.getElem?_eq_getElem (by omega)
 have h2:=hr _ (List.mem_of_getElem? h1)
 have h3:s.links[i][j]?= some s.links[i][j]:=List.getElem?_eq_getElem (by omega)
 have e:linkOf s i j=s.links[i][j]:=by unfold linkOf;rw[h1,Option.getD_some,h3,Option.getD_some]
 rw[e]at hk hm
 have a1:f m<=linkSum f s.links[i][j]:=by
  unfold linkSum
  refine mem_sum f _ m ?_
  have:(s.links[i][j].all.drop s.links[i][j].came.toNat)[k - s.links[i][j].came.toNat]?= some m:=by rw[List.getElem?_drop,Nat.add_sub_cancel' hk];exact hm
  exact List.mem_of_getElem? this
 have a2:=mem_sum (linkSum f) s.links[i] _ (List.mem_of_getElem? h3)
 have a3:=mem_sum (fun ls=>(ls.map (linkSum f)).sum) s.links _ (List.mem_of_getElem? h1)
 show f m<=(s.links.map fun ls=>(ls.map (linkSum f)).sum).sum
 omega
structure RingOK(s:RunS):Prop where
 one:held s+total tok s<=1
 here:∀t x,s.W[t]?= some x->x.has=true->Safra s t x.token.count x.token.black
 way:∀i j m,Under s i j m->m.kind=5->Safra s j m.count m.black
theorem held_set{s:RunS}{i:Nat}{x:WorkerS}(x':WorkerS)(hx:s.W[i]?= some x):held {s with W:=s.W.set i x'}+hasN x=held s+hasN x':=sum_set hasN s.W i x' x hx
theorem linkOf_send(s:RunS)(m:MsgS)(hl:s.links.length=s.W.length)(hr:∀ls∈s.links,ls.length=s.W.length)(hi:m.src.toNat < s.W.length)(hj:m.dst.toNat < s.W.length):linkOf (sendS s m) m.src.toNat m.dst.toNat={linkOf s m.src.toNat m.dst.toNat with all:=(linkOf s m.src.toNat m.dst.toNat).all++ [{m with no:=(linkOf s m.src.toNat m.dst.toNat).all.length+1}]}:=by
 have h:=linkOf_set {linkOf s m.src.toNat m.dst.toNat with all:=(linkOf s m.src.toNat m.dst.toNat).all++ [{m with no:=(linkOf s m.src.toNat m.dst.toNat).all.length+1}]} hl hr hi hj m.src.toNat m.dst.toNat
 rw[if_pos ⟨rfl,rfl⟩]at h
 rw[<-h]
 unfold sendS wayS linkOf setLink
 dsimp only
 split<;>split<;>rfl
theorem sendS_len(s:RunS)(m:MsgS):(sendS s m).W.length=s.W.length:=by
 unfold sendS wayS
 dsimp only
 split<;>split<;>simp
theorem Under.of_send{N:Nat}{s:RunS}(h:Fine N s){m m':MsgS}{a b:Nat}(hi:m.src.toNat < s.W.length)(hj:m.dst.toNat < s.W.length)(hu:Under (sendS s m) a b m'):Under s a b m'\/(a=m.src.toNat/\b=m.dst.toNat/\∃n,m'={m with no:=n}):=by
 obtain⟨ha,hb,k,hk,hm⟩:=hu
 rw[sendS_len]at ha hb
 by_cases e:a=m.src.toNat/\b=m.dst.toNat
 ·obtain⟨rfl,rfl⟩:=e
  rw[linkOf_send s m h.llen h.lrow hi hj]at hk hm
  dsimp only at hk hm
  rcases Nat.lt_or_ge k (linkOf s m.src.toNat m.dst.toNat).all.length with hlt|hge
  ·rw[List.getElem?_append_left hlt]at hm
   exact .inl ⟨ha,hb,k,hk,hm⟩
  ·rw[List.getElem?_append_right hge]at hm
   have:m'={m with no:=(linkOf s m.src.toNat m.dst.toNat).all.length+1}:=by
    cases hz:k - (linkOf s m.src.toNat m.dst.toNat).all.length with
    |zero=>rw[hz]at hm;simpa using hm.symm
    |succ z=>rw[hz]at hm;simp at hm
   exact .inr ⟨rfl,rfl,_,this⟩
 ·rw[sendS_link s m h.llen h.lrow hi hj e]at hk hm
  exact .inl ⟨ha,hb,k,hk,hm⟩
structure RingE(m:MsgS)(j:Nat)(s:RunS):Prop where
 one:held s+total tok s+tok m<=1
 here:∀t x,s.W[t]?= some x->x.has=true->Safra s t x.token.count x.token.black
 way:∀a b m',Under s a b m'->m'.kind=5->Safra s b m'.count m'.black
 hand:m.kind=5->Safra s j m.count m.black
theorem RingE.of{m:MsgS}{j:Nat}{s:RunS}(h:RingE m j s)(hk:m.kind≠5):RingOK s:=⟨by have:=h.one;have e:tok m=0:=if_neg hk;omega,h.here,h.way⟩
theorem RingOK.same{s s':RunS}(h:RingOK s)(e:Same s s'):RingOK s':=by
 have hh:held s'=held s:=by unfold held;rw[e.W]
 refine⟨by rw[hh,e.shape.2];exact h.one,fun t x hx hb=> ?_,fun i j m hu hk=> ?_⟩
 ·rw[e.W]at hx
  exact(h.here t x hx hb).congr e.W
 ·obtain⟨hi,hj,k,hk1,hk2⟩:=hu
  rw[(e.links i j).1]at hk2
  rw[(e.links i j).2]at hk1
  rw[e.W]at hi hj
  exact(h.way i j m ⟨hi,hj,k,hk1,hk2⟩ hk).congr e.W
theorem RingOK.congr{s s':RunS}(h:RingOK s)(e:s'.W=s.W)(e2:s'.links=s.links):RingOK s':=by
 have hh:held s'=held s:=by unfold held;rw[e]
 have hl:∀a b,linkOf s' a b=linkOf s a b:=fun a b=>by unfold linkOf;rw[e2]
 refine⟨by rw[hh,total_congr tok e2];exact h.one,fun t x hx hb=> ?_,fun i j m hu hk=> ?_⟩
 ·rw[e]at hx
  exact(h.here t x hx hb).congr e
 ·obtain⟨hi,hj,k,hk1,hk2⟩:=hu
  rw[hl]at hk1 hk2
  rw[e]at hi hj
  exact(h.way i j m ⟨hi,hj,k,hk1,hk2⟩ hk).congr e
theorem RingOK.reworker{s:RunS}(h:RingOK s){i:Nat}{x x':WorkerS}(hx:s.W[i]?= some x)(hS:∀t q b,Safra s t q b->Safra {s with W:=s.W.set i x'} t q b)(hh:x'.has=x.has/\x'.token=x.token):RingOK {s with W:=s.W.set i x'}:=by
 have hil:=(List.getElem?_eq_some_iff.1 hx).1
 have h1:=held_set x' hx
 have e:hasN x'=hasN x:=by unfold hasN;rw[hh.1]
 refine⟨?_,fun t y hy hb=> ?_,fun a b m hu hk=> ?_⟩
 ·have e2:total tok {s with W:=s.W.set i x'}=total tok s:=total_congr tok rfl
  have:=h.one
  omega
 ·by_cases et:t=i
  ·subst et
   have hy':(s.W.set t x')[t]?= some y:=hy
   rw[List.getElem?_set_self hil]at hy'
   obtain rfl:=Option.some.inj hy'
   rw[hh.2]
   exact hS _ _ _ (h.here t x hx (by rw[<-hh.1];exact hb))
  ·have hy':(s.W.set i x')[t]?= some y:=hy
   rw[List.getElem?_set_ne (fun e'=>et e'.symm)]at hy'
   exact hS _ _ _ (h.here t y hy' hb)
 ·obtain⟨ha,hb,k,hk1,hk2⟩:=hu
  exact hS _ _ _ (h.way a b m ⟨by simpa using ha,by simpa using hb,k,hk1,hk2⟩ hk)
theorem RingOK.send{N:Nat}{s:RunS}(h:RingOK s)(hf:Fine N s){m:MsgS}(hi:m.src.toNat < s.W.length)(hj:m.dst.toNat < s.W.length)(hk:m.kind≠5/\m.kind≠2/\m.kind≠4):RingOK (sendS s m):=by
 have hW:=sendS_W s m (by omega)
 obtain⟨n,hn⟩:=total_send tok hf m hi hj
 have ht:tok {m with no:=n}=0:=by unfold tok;rw[if_neg hk.1]
 have hh:held (sendS s m)=held s:=by unfold held;rw[hW]
 refine⟨by rw[hh,hn,ht];exact h.one,fun t x hx hb=> ?_,fun a b m' hu hk'=> ?_⟩
 ·rw[hW]at hx
  exact(h.here t x hx hb).congr hW
 ·rcases Under.of_send hf hi hj hu with hu'|⟨-,-,n',rfl⟩
  ·exact(h.way a b m' hu' hk').congr hW
  ·exact absurd hk' hk.1
theorem sendS_W2(s:RunS)(m:MsgS)(h:m.kind=2\/m.kind=4):(sendS s m).W=s.W.set m.src.toNat {s.W[m.src.toNat]?.getD worker0 with sent:=(s.W[m.src.toNat]?.getD worker0).sent+1}:=by
 unfold sendS wayS
 simp only[if_pos h]
 split<;>rfl
theorem RingOK.sendWork{N:Nat}{s:RunS}(h:RingOK s){i:Nat}{x y:WorkerS}(hx:s.W[i]?= some x)(hne:x.tasks≠ [])(hy:y.sent=x.sent/\y.came=x.came/\y.black=x.black/\y.has=x.has/\y.token=x.token){m:MsgS}(hf:Fine N {s with W:=s.W.set i y})(hi:m.src.toNat=i)(hj:m.dst.toNat < s.W.length)(hk:m.kind=2\/m.kind=4):RingOK (sendS {s with W:=s.W.set i y} m):=by
 have hil:=(List.getElem?_eq_some_iff.1 hx).1
 have hk5:m.kind≠5:=by omega
 have hget:({s with W:=s.W.set i y}:RunS).W[i]?= some y:=List.getElem?_set_self hil
 have hW:(sendS {s with W:=s.W.set i y} m).W=s.W.set i {y with sent:=y.sent+1}:=by
  rw[sendS_W2 _ m hk,hi,hget,Option.getD_some]
  show(s.W.set i y).set i _=_
  rw[List.set_set]
 have h1:RingOK {s with W:=s.W.set i {y with sent:=y.sent+1}}:=h.reworker hx (fun t q b hS=>hS.set hx (fun hb=>by rw[<-hb];exact hy.2.2.1) (by unfold dif;dsimp only;omega) (.inl hne)) ⟨hy.2.2.2.1,hy.2.2.2.2⟩
 have hWl:(s.W.set i y).length=s.W.length:=List.length_set ..
 obtain⟨n,hn⟩:=total_send tok hf m (by show m.src.toNat < (s.W.set i y).length;omega) (by show m.dst.toNat < (s.W.set i y).length;omega)
 have ht:tok {m with no:=n}=0:=by unfold tok;rw[if_neg hk5]
 have hh:held (sendS {s with W:=s.W.set i y} m)=held {s with W:=s.W.set i {y with sent:=y.sent+1}}:=by unfold held;rw[hW]
 refine⟨?_,fun t z hz hb=> ?_,fun a b m' hu hk'=> ?_⟩
 ·rw[hh,hn,ht]
  have:=h1.one
  have e:total tok {s with W:=s.W.set i {y with sent:=y.sent+1}}=total tok {s with W:=s.W.set i y}:=total_congr tok rfl
  omega
 ·rw[hW]at hz
  exact(h1.here t z hz hb).congr hW
 ·rcases Under.of_send hf (by show m.src.toNat < (s.W.set i y).length;omega) (by show m.dst.toNat < (s.W.set i y).length;omega) hu with hu'|⟨-,-,n',rfl⟩
  ·obtain⟨ha,hb,k,hk1,hk2⟩:=hu'
   exact(h1.way a b m' ⟨by simpa using ha,by simpa using hb,k,hk1,hk2⟩ hk').congr hW
  ·exact absurd hk' hk5
theorem RingE.came{N:Nat}{s:RunS}{i j n:Nat}{m:MsgS}(h:RingE m j s)(hf:Fine N s)(hi:i < s.W.length)(hj:j < s.W.length)(hm:MsgOK s.ks (s.answers≠ []) N i j n m)(hb:works m=1->0 < bal s):RingOK (cameS s m):=by
 have hs0:=hm.src
 have hd0:=hm.dst
 have ejn:m.dst.toNat=j:=by omega
 have hx:s.W[j]?= some (s.W[j]'hj):=List.getElem?_eq_getElem _
 unfold cameS
 dsimp only
 rw[ejn,hx,Option.getD_some]
 generalize s.W[j]'_=x at hx ⊢
 have hxo:=hf.works x (List.mem_of_getElem? hx)
 split
 ·rename_i h1
  have hR:=h.of (by omega)
  split
  ·exact hR.send hf (by show m.dst.toNat < _;omega) (by show m.src.toNat < _;omega) ⟨by simp,by simp,by simp⟩
  ·rename_i t r ht
   have hwk:WorkerOK s.ks N {x with tasks:=r}:=⟨by have:=hxo.few;rw[ht]at this;simp at this;dsimp only;omega,fun c hc=>hxo.good c (by rw[ht];exact List.mem_cons_of_mem _ hc),hxo.sent,hxo.came,hxo.tok⟩
   exact hR.sendWork hx (by rw[ht];simp) (y:={x with tasks:=r}) ⟨rfl,rfl,rfl,rfl,rfl⟩ (hf.reworker j hwk (Nat.le_refl _)) ejn (by show m.src.toNat < _;omega) (.inl rfl)
 ·split
  ·rename_i h2
   have hp:=hb (by simp[works,h2])
   exact(h.of (by omega)).reworker hx (fun t q b hS=>hS.work hx rfl hp) ⟨rfl,rfl⟩
  ·split
   ·rename_i h3
    exact(h.of (by omega)).reworker hx (fun t q b hS=>hS.set hx (fun hb=>hb) (Int.le_refl _) (by
     by_cases e:x.tasks=[]
     ·exact .inr ⟨e,rfl⟩
     ·exact .inl e)) ⟨rfl,rfl⟩
   ·split
    ·rename_i h4
     have hp:=hb (by simp[works,h4])
     exact RingOK.congr (s:={s with W:=s.W.set j {x with came:=x.came+1,black:=true}}) ((h.of (by omega)).reworker hx (fun t q b hS=>hS.work hx rfl hp) ⟨rfl,rfl⟩) rfl rfl
    ·split
     ·rename_i h5
      have ht:tok m=1:=if_pos h5
      have hone:=h.one
      have hh:hasN x=0:=by
       have:=mem_sum hasN s.W x (List.mem_of_getElem? hx)
       unfold held at hone
       omega
      have hset:=held_set {x with has:=true,token:=m} hx
      have hS:∀t q b,Safra s t q b->Safra {s with W:=s.W.set j {x with has:=true,token:=m}} t q b:=fun t q b hS=>hS.set hx (fun hb=>hb) (Int.le_refl _) (by
       by_cases e:x.tasks=[]
       ·exact .inr ⟨e,rfl⟩
       ·exact .inl e)
      have hN:hasN {x with has:=true,token:=m}=1:=rfl
      refine RingOK.congr (s:={s with W:=s.W.set j {x with has:=true,token:=m}}) ⟨?_,fun t y hy hb=> ?_,fun a b m' hu hk=> ?_⟩ rfl rfl
      ·have e2:total tok {s with W:=s.W.set j {x with has:=true,token:=m}}=total tok s:=total_congr tok rfl
       omega
      ·by_cases et:t=j
       ·subst et
        have hy':(s.W.set t {x with has:=true,token:=m})[t]?= some y:=hy
        rw[List.getElem?_set_self hj]at hy'
        obtain rfl:=Option.some.inj hy'
        exact hS _ _ _ (h.hand h5)
       ·have hy':(s.W.set j {x with has:=true,token:=m})[t]?= some y:=hy
        rw[List.getElem?_set_ne (fun e'=>et e'.symm)]at hy'
        exact hS _ _ _ (h.here t y hy' hb)
      ·obtain⟨ha,hb,k,hk1,hk2⟩:=hu
       exact hS _ _ _ (h.way a b m' ⟨by simpa using ha,by simpa using hb,k,hk1,hk2⟩ hk)
     ·rename_i h5
      have hR:=h.of h5
      split
      ·exact hR.send hf (by show m.dst.toNat < _;omega) (by show(0:Int).toNat < _;simp;omega) ⟨by simp,by simp,by simp⟩
      ·split
       ·unfold notedS
        split
        ·exact hR
        ·exact hR.congr rfl rfl
       ·exact hR
theorem RingOK.step{N:Nat}{s:RunS}{i j:Nat}{m:MsgS}(h:RingOK s)(hv:Even 0 s)(hf:Fine N s)(hi:i < s.W.length)(hj:j < s.W.length)(hg:(linkOf s i j).all[(linkOf s i j).came.toNat]?= some m)(hm:MsgOK s.ks (s.answers≠ []) N i j (linkOf s i j).came.toNat m)(hf1:Fine N (setLink s i j {linkOf s i j with came:=(linkOf s i j).came+1})):RingOK (cameS (setLink s i j {linkOf s i j with came:=(linkOf s i j).came+1}) m):=by
 have hu:Under s i j m:=⟨hi,hj,_,Nat.le_refl _,hg⟩
 have hset:=linkOf_set {linkOf s i j with came:=(linkOf s i j).came+1} hf.llen hf.lrow hi hj
 have hca:=(hf.links i j hi hj).came
 refine RingE.came ⟨?_,fun t x hx hb=>(h.here t x hx hb).congr rfl,fun a b m' hu' hk=> ?_,fun hk=>(h.way i j m hu hk).congr rfl⟩ hf1 hi hj hm (fun hw=> ?_)
 ·have h1:=total_step tok hf hi hj hg
  have h2:held (setLink s i j {linkOf s i j with came:=(linkOf s i j).came+1})=held s:=rfl
  have:=h.one
  omega
 ·refine(h.way a b m' ?_ hk).congr rfl
  obtain⟨ha,hb,k,hk1,hk2⟩:=hu'
  rw[hset]at hk1 hk2
  split at hk1
  ·rename_i e
   rw[if_pos e]at hk2
   obtain⟨rfl,rfl⟩:=e
   exact⟨ha,hb,k,by dsimp only at hk1;omega,hk2⟩
  ·rename_i e
   rw[if_neg e]at hk2
   exact⟨ha,hb,k,hk1,hk2⟩
 ·have h1:=hv.eq
  have h2:=hu.weigh hf.llen hf.lrow works
  have h3:bal (setLink s i j {linkOf s i j with came:=(linkOf s i j).came+1})=bal s:=rfl
  rw[h3]
  omega
theorem RingOK.deliver{N:Nat}{s:RunS}(h:RingOK s)(hv:Even 0 s)(hf:Fine N s)(hN:N+5<=90000000)(k:Int):RingOK (deliverS s k).1:=by
 have:=deliver_ind (P:=fun s=>RingOK s/\Even 0 s) (fun a b e hP=>⟨hP.1.same e,⟨by have:=hP.2.eq;rw[bal_congr e.W,e.shape.2];exact this⟩⟩)
  (fun N s i j m hf _ hi hj hg hm hf1 hP=>⟨hP.1.step hP.2 hf hi hj hg hm hf1,by
   have h1:=total_step works hf hi hj hg
   have h3:bal (setLink s i j {linkOf s i j with came:=(linkOf s i j).came+1})=bal s:=rfl
   have hv:=hP.2.eq
   exact Even.came ⟨by rw[h3];omega⟩ hf1 hi hj hm⟩) ⟨h,hv⟩ hf hN k
 exact this.1
theorem RingOK.work{N:Nat}{s:RunS}(ho:RingOK s)(h:Fine N s)(i:Int):RingOK (workS s i).1:=by
 unfold workS
 split
 ·exact ho
 ·rename_i hw
  obtain⟨h0,hlt⟩:=workerE_range hw
  obtain⟨hil,hie⟩:=h.nat h0 hlt
  split
  ·exact ho
  ·rename_i x hx
   have hxo:=h.works x (List.mem_of_getElem? hx)
   split
   ·exact ho
   ·rename_i t ht
    have htm:t∈x.tasks:=List.mem_of_getLast? ht
    have htn:x.tasks≠ []:=fun e=>by rw[e]at htm;simp at htm
    split
    ·exact ho.congr rfl rfl
    ·rename_i hroom
     dsimp only
     split
     ·exact RingOK.congr (s:={s with W:=s.W.set i.toNat {x with tasks:=x.tasks.dropLast++children s.ks t}}) (ho.reworker hx (fun t' q b hS=>hS.set hx (fun hb=>hb) (Int.le_refl _) (.inl htn)) ⟨rfl,rfl⟩) rfl rfl
     ·have hne:x.tasks.length≠0:=fun e=>by rw[List.length_eq_zero_iff]at e;exact htn e
      have hwk:WorkerOK s.ks N {x with tasks:=x.tasks.dropLast++children s.ks t}:=by
       refine⟨?_,fun c hc=> ?_,hxo.sent,hxo.came,hxo.tok⟩
       ·have:=h.rmax
        simp
        omega
       ·rcases List.mem_append.1 hc with e|e
        ·exact hxo.good c ((List.dropLast_sublist _).subset e)
        ·exact childrenFrom_good h.prog (hxo.good t htm) c e
      have h2:=h.two
      have hlen:=h.len
      exact ho.sendWork hx htn (y:={x with tasks:=x.tasks.dropLast++children s.ks t}) ⟨rfl,rfl,rfl,rfl,rfl⟩ (h.reworker i.toNat hwk (Nat.le_refl _)) rfl (by show(0:Int).toNat < _;simp;omega) (.inr rfl)
theorem RingOK.steal{N:Nat}{s:RunS}(ho:RingOK s)(h:Fine N s)(i v:Int):RingOK (stealS s i v).1:=by
 unfold stealS
 split
 ·exact ho
 ·rename_i hi
  split
  ·exact ho
  ·rename_i hv
   split
   ·exact ho
   ·obtain⟨hi0,hi1⟩:=workerE_range hi
    obtain⟨hv0,hv1⟩:=workerE_range hv
    obtain⟨hil,hie⟩:=h.nat hi0 hi1
    obtain⟨hvl,hve⟩:=h.nat hv0 hv1
    split
    ·exact ho
    ·rename_i x hx
     have hxo:=h.works x (List.mem_of_getElem? hx)
     split
     ·exact ho
     ·refine RingOK.send (N:=N) (ho.reworker hx (x':={x with asked:=true}) (fun t q b hS=>hS.set hx (fun hb=>hb) (Int.le_refl _) (by
       by_cases e:x.tasks=[]
       ·exact .inr ⟨e,rfl⟩
       ·exact .inl e)) ⟨rfl,rfl⟩) (h.reworker i.toNat (x:={x with asked:=true}) ⟨hxo.few,hxo.good,hxo.sent,hxo.came,hxo.tok⟩ (Nat.le_refl _)) (by simpa using hil) (by simpa using hvl) ⟨by simp,by simp,by simp⟩
theorem RingOK.handOn{N:Nat}{s s':RunS}{i:Nat}{x:WorkerS}{m:MsgS}(ho:RingOK s)(h:Fine N s)(hx:s.W[i]?= some x)(hh:x.has=true)(hk:m.kind=5)(hi:m.src.toNat < s.W.length)(hj:m.dst.toNat < s.W.length)(hW:s'.W=s.W.set i {x with black:=false,has:=false})(hL:s'.links=(sendS s m).links)(hS:Safra s' m.dst.toNat m.count m.black):RingOK s':=by
 have hil:=(List.getElem?_eq_some_iff.1 hx).1
 have hone:=ho.one
 have h1:=held_set {x with black:=false,has:=false} hx
 have hN:hasN x=1:=if_pos hh
 have hN0:hasN {x with black:=false,has:=false}=0:=rfl
 have hm1:=mem_sum hasN s.W x (List.mem_of_getElem? hx)
 have hd:held s=(s.W.map hasN).sum:=rfl
 have hd':held s'=held {s with W:=s.W.set i {x with black:=false,has:=false}}:=by unfold held;rw[hW]
 have hz:held s'=0/\total tok s=0:=by omega
 obtain⟨n,hn⟩:=total_send tok h m hi hj
 have ht:tok {m with no:=n}=1:=if_pos hk
 have htot:total tok s'=total tok (sendS s m):=total_congr tok hL
 refine⟨by omega,fun t y hy hb=> ?_,fun a b m' hu hk'=> ?_⟩
 ·have:=mem_sum hasN s'.W y (List.mem_of_getElem? hy)
  have e:hasN y=1:=if_pos hb
  have:held s'=(s'.W.map hasN).sum:=rfl
  omega
 ·have hlk:∀a b,linkOf s' a b=linkOf (sendS s m) a b:=fun a b=>by unfold linkOf;rw[hL]
  have hlen:s'.W.length=s.W.length:=by rw[hW,List.length_set]
  obtain⟨ha,hb,k,hk1,hk2⟩:=hu
  rw[hlk]at hk1 hk2
  rw[hlen]at ha hb
  rcases Under.of_send h hi hj (m':=m') (a:=a) (b:=b) ⟨by rw[sendS_len];exact ha,by rw[sendS_len];exact hb,k,hk1,hk2⟩with hu'|⟨-,e2,n',rfl⟩
  ·have h9:=hu'.weigh h.llen h.lrow tok
   have e:tok m'=1:=if_pos hk'
   omega
  ·rw[e2];exact hS
theorem sendS_links_eq(s s2:RunS)(m:MsgS)(e:s2.links=s.links):(sendS s2 m).links=(sendS s m).links:=by
 unfold sendS wayS
 dsimp only
 rw[e]
 split<;>split<;>split<;>rfl
theorem RingOK.pass{N:Nat}{s:RunS}(ho:RingOK s)(h:Fine N s)(i:Int):RingOK (passS s i).1:=by
 unfold passS
 split
 ·exact ho
 ·rename_i hw
  obtain⟨h0,hlt⟩:=workerE_range hw
  obtain⟨hil,hie⟩:=h.nat h0 hlt
  split
  ·exact ho
  ·rename_i x hx
   split
   ·exact ho
   ·rename_i hc
    have hi0:i≠0:=fun e=>hc (.inr (.inl e))
    have hh:x.has=true:=by
     cases hb:x.has with
     |true=>rfl
     |false=>exact absurd (.inr (.inr (.inl hb))) hc
    have hidle:x.tasks=[]:=by
     cases hb:x.tasks with
     |nil=>rfl
     |cons a b=>exact absurd (.inr (.inr (.inr (by rw[hb];simp)))) hc
    have hsW:=sendS_W s {msg0 with src:=i,dst:=i - 1,kind:=5,count:=x.token.count+x.sent - x.came,black:=x.token.black||x.black} (by simp)
    refine ho.handOn h hx hh (m:={msg0 with src:=i,dst:=i - 1,kind:=5,count:=x.token.count+x.sent - x.came,black:=x.token.black||x.black}) rfl hil (by show(i - 1).toNat < _;omega) (by dsimp only;rw[hsW]) rfl ?_
    have hS:=ho.here i.toNat x hx hh
    have et:(i - 1).toNat+1=i.toNat:=by omega
    obtain⟨t,ht⟩:∃t,(i - 1).toNat=t:=⟨_,rfl⟩
    have hW':({sendS s {msg0 with src:=i,dst:=i - 1,kind:=5,count:=x.token.count+x.sent - x.came,black:=x.token.black||x.black}with W:=(sendS s {msg0 with src:=i,dst:=i - 1,kind:=5,count:=x.token.count+x.sent - x.came,black:=x.token.black||x.black}).W.set i.toNat {x with black:=false,has:=false}}:RunS).W=s.W.set i.toNat {x with black:=false,has:=false}:=by dsimp only;rw[hsW]
    refine Safra.congr (s:={s with W:=s.W.set i.toNat {x with black:=false,has:=false}}) ?_ hW'
    show Safra _ (i - 1).toNat (x.token.count+x.sent - x.came) (x.token.black||x.black)
    rw[ht]at et ⊢
    have hu:=upto_set (t:=t) (x':={x with black:=false,has:=false}) hx
    have hv:=beyond_set (t:=t) (x':={x with black:=false,has:=false}) hx
    rw[if_neg (by omega)]at hu hv
    have hdd:dif {x with black:=false,has:=false}=dif x:=rfl
    have hdx:dif x=x.sent - x.came:=rfl
    have hup:upto i.toNat s=upto t s+dif x:=by
     unfold upto
     have hget:s.W[t+1]?= some x:=by rw[et];exact hx
     rw[<-et,List.take_add_one,hget]
     simp
    have hall:=upto_beyond t s
    have hall':=upto_beyond i.toNat s
    rcases hS with⟨hA,hq⟩|hB|⟨k,y,hk,hy,hbl⟩|hD
    ·refine .inl ⟨fun k y hk hy=> ?_,by omega⟩
     have hy':(s.W.set i.toNat {x with black:=false,has:=false})[k]?= some y:=hy
     by_cases e:k=i.toNat
     ·subst e
      rw[List.getElem?_set_self hil]at hy'
      obtain rfl:=Option.some.inj hy'
      exact hidle
     ·rw[List.getElem?_set_ne (fun e'=>e e'.symm)]at hy'
      exact hA k y (by omega) hy'
    ·exact .inr (.inl (by omega))
    ·by_cases e:k=i.toNat
     ·subst e
      rw[hx]at hy
      obtain rfl:=Option.some.inj hy
      exact .inr (.inr (.inr (by rw[hbl];simp)))
     ·exact .inr (.inr (.inl ⟨k,y,by omega,by show(s.W.set i.toNat _)[k]?= some y;rw[List.getElem?_set_ne (fun e'=>e e'.symm)];exact hy,hbl⟩))
    ·exact .inr (.inr (.inr (by rw[hD];rfl)))
theorem RingOK.waves{n:Int}:∀(L:List Nat) (N:Nat) (s:RunS),RingOK s->Fine N s->s.answers≠ []->(∀k∈L,1<=k/\k < s.W.length)->RingOK (L.foldl (waveS n) s):=by
 intro L
 induction L with
 |nil=>exact fun N s ho _ _ _=>ho
 |cons k L ih=>
  intro N s ho h hne hL
  have hk:=hL k (List.mem_cons_self ..)
  have hw:=Fine.waves (n:=n) [k] N s h hne (fun k' h'=>by rw[List.mem_singleton.1 h'];exact hk)
  have hr:=sendS_rest s {msg0 with src:=0,dst:=k,kind:=6,round:=n}
  rw[List.foldl_cons]
  refine ih (N+1) _ (ho.send h (by show(0:Int).toNat < _;simp;omega) (by show(k:Int).toNat < _;simp;omega) ⟨by simp,by simp,by simp⟩) hw (by show(sendS s _).answers≠ [];rw[hr.1];exact hne) (fun k' h'=> ?_)
  have:=hL k' (List.mem_cons_of_mem _ h')
  refine⟨this.1,?_⟩
  show k' < (sendS s _).W.length
  rw[hr.2.1]
  exact this.2
theorem RingOK.check{N:Nat}{s:RunS}(ho:RingOK s)(h:Fine N s)(hN:N<=1000000000):RingOK (checkS s).1:=by
 have h2:=h.two
 have hl:=h.len
 unfold checkS
 split
 ·exact ho
 ·split
  ·unfold ringS
   split
   ·exact ho
   ·rename_i x hx
    split
    ·exact ho
    ·rename_i hc
     have hh:x.has=true:=by
      cases hb:x.has with
      |true=>rfl
      |false=>exact absurd (.inl hb) hc
     split
     ·exact ho.congr rfl rfl
     ·have hsW:=sendS_W {s with W:=s.W.set 0 {x with black:=false,has:=false}} {msg0 with src:=0,dst:=s.workers - 1,kind:=5} (by simp)
      refine ho.handOn h hx hh (m:={msg0 with src:=0,dst:=s.workers - 1,kind:=5}) rfl (by show(0:Int).toNat < _;simp;omega) (by show(s.workers - 1).toNat < _;omega) hsW (sendS_links_eq s _ _ rfl) ?_
      refine Safra.congr (s:={s with W:=s.W.set 0 {x with black:=false,has:=false}}) (.inl ⟨fun k y hk hy=> ?_,?_⟩) hsW
      ·have hkl:=(List.getElem?_eq_some_iff.1 hy).1
       simp at hkl
       have hk':(s.workers - 1).toNat < k:=hk
       omega
      ·show(0:Int)=beyond (s.workers - 1).toNat _
       unfold beyond
       rw[List.drop_eq_nil_of_le (by simp;omega)]
       rfl
  ·unfold wavesS
   split
   ·exact ho
   ·rename_i x hx
    have hxo:=h.works x (List.mem_of_getElem? hx)
    split
    ·exact ho
    ·split
     ·exact ho.congr rfl rfl
     ·have h3:Fine (N+1) {s with answers:=s.answers++ [⟨0,0,0,true⟩]}:=h.reans (by have:=h.alen;simp;omega) (by simp) (fun a ha=>by
       rcases List.mem_append.1 ha with e|e
       ·exact(h.ans a e).more (Nat.le_succ N)
       ·rw[List.mem_singleton.1 e];exact⟨by dsimp only;omega,by dsimp only;omega,by dsimp only;omega⟩) (Nat.le_succ N)
      have hsn:=hxo.sent
      have hcm:=hxo.came
      have h4:=h3.noted (a:=x.sent) (b:=x.came) true (by omega) (by omega)
      have hne:(notedS {s with answers:=s.answers++ [⟨0,0,0,true⟩]} x.sent x.came true).answers≠ []:=by
       unfold notedS
       split<;>simp
      have hwl:(notedS {s with answers:=s.answers++ [⟨0,0,0,true⟩]} x.sent x.came true).W.length=s.W.length:=by
       unfold notedS
       split<;>rfl
      have hon:RingOK (notedS {s with answers:=s.answers++ [⟨0,0,0,true⟩]} x.sent x.came true):=by
       unfold notedS
       split<;>exact ho.congr rfl rfl
      refine RingOK.waves (List.range' 1 (s.W.length - 1)) (N+1+1) _ hon h4 hne (fun k hk=> ?_)
      rw[hwl]
      have:=List.mem_range'_1.1 hk
      omega
theorem RingOK.all{s:RunS}{x:WorkerS}(ho:RingOK s)(hv:Even 0 s)(hx:s.W[0]?= some x)(hh:x.has=true)(hi:x.tasks=[])(hr:roundB s x=true):(∀y∈s.W,y.tasks=[])/\total works s=0:=by
 have hS:=ho.here 0 x hx hh
 unfold roundB at hr
 simp only[Bool.and_eq_true,Bool.not_eq_true',beq_iff_eq]at hr
 obtain⟨⟨⟨-,hb1⟩,hb2⟩,hz⟩:=hr
 have hu:upto 0 s=dif x:=by
  unfold upto
  rw[List.take_add_one,hx]
  simp
 have hdx:dif x=x.sent - x.came:=rfl
 have hall:=upto_beyond 0 s
 have he:=hv.eq
 rcases hS with⟨hA,hq⟩|hB|⟨k,y,hk,hy,hbl⟩|hD
 ·refine⟨fun y hy=> ?_,by omega⟩
  obtain⟨k,hk⟩:=List.getElem?_of_mem hy
  cases k with
  |zero=>
   rw[hx]at hk
   obtain rfl:=Option.some.inj hk
   exact hi
  |succ k=>exact hA (k+1) y (by omega) hk
 ·omega
 ·obtain rfl:k=0:=by omega
  rw[hx]at hy
  obtain rfl:=Option.some.inj hy
  rw[hb2]at hbl
  cases hbl
 ·rw[hb1]at hD
  cases hD
theorem total_new(f:MsgS->Nat)(workers room mode kind arg:Int)(ks:List KindS):total f (newS workers room mode ks kind arg)=0:=by
 have e2:∀n:Nat,((List.replicate n link0).map (linkSum f)).sum=0:=fun n=>by
  induction n with
  |zero=>rfl
  |succ n ih=>rw[List.replicate_succ,List.map_cons,List.sum_cons,ih];rfl
 have e3:∀n k:Nat,((List.replicate n (List.replicate k link0)).map fun ls=>(ls.map (linkSum f)).sum).sum=0:=fun n k=>by
  induction n with
  |zero=>rfl
  |succ n ih=>rw[List.replicate_succ,List.map_cons,List.sum_cons,ih,e2]
 unfold total newS
 exact e3 _ _
theorem RingOK.new{workers room mode kind arg:Int}{ks:List KindS}(hc:cfgB workers room mode=true)(hp:progB ks kind arg=true):RingOK (newS workers room mode ks kind arg):=by
 have hf:=Fine.new hc hp
 have e:∀n:Nat,((List.replicate n worker0).map hasN).sum=0:=fun n=>by
  induction n with
  |zero=>rfl
  |succ n ih=>rw[List.replicate_succ,List.map_cons,List.sum_cons,ih];rfl
 have ed:∀n:Nat,((List.replicate n worker0).map dif).sum=0:=fun n=>by
  induction n with
  |zero=>rfl
  |succ n ih=>rw[List.replicate_succ,List.map_cons,List.sum_cons,ih];rfl
 have hhas:held (newS workers room mode ks kind arg)=1:=by
  unfold held newS
  dsimp only
  rw[List.map_cons,List.sum_cons,e]
  rfl
 have hrest:∀k y,(newS workers room mode ks kind arg).W[k+1]?= some y->y=worker0:=fun k y hy=>by
  have hy':(List.replicate (workers.toNat - 1) worker0)[k]?= some y:=by simpa[newS]using hy
  exact List.eq_of_mem_replicate (List.mem_of_getElem? hy')
 refine⟨by rw[hhas,total_new];exact Nat.le_refl _,fun t x hx hb=> ?_,fun i j m hu hk=> ?_⟩
 ·cases t with
  |zero=>
   have hx':x={worker0 with tasks:=[⟨⟨#[]⟩,kind,arg⟩],has:=true}:=by
    have:some {worker0 with tasks:=[⟨⟨#[]⟩,kind,arg⟩],has:=true}=some x:=hx
    exact(Option.some.inj this).symm
   subst hx'
   refine .inl ⟨fun i y hi hy=> ?_,?_⟩
   ·cases i with
    |zero=>omega
    |succ i=>rw[hrest i y hy];rfl
   ·show(0:Int)=beyond 0 _
    unfold beyond newS
    dsimp only
    rw[List.drop_succ_cons,List.drop_zero,ed]
  |succ t=>rw[hrest t x hx]at hb;cases hb
 ·have:=hu.weigh hf.llen hf.lrow tok
  rw[total_new]at this
  have e:tok m=1:=if_pos hk
  omega
def f6(m:MsgS):Nat:=if m.kind=6 then 1 else 0
def f7(m:MsgS):Nat:=if m.kind=7 then 1 else 0
def fW(k:Nat)(m:MsgS):Nat:=if m.kind=6/\m.dst=(k:Int)then 1 else 0
def fS(m:MsgS):Nat:=if m.kind=7 then m.sent.toNat else 0
def fC(m:MsgS):Nat:=if m.kind=7 then m.came.toNat else 0
def fB(m:MsgS):Nat:=if m.kind=7/\m.idle=false then 1 else 0
def openSum(g:WorkerS->Int)(s:RunS):Int:=((List.range s.W.length).map fun k=>(total (fW k) s:Int)*g (s.W[k]?.getD worker0)).sum
def told(s:RunS)(b:AnsS):Int:=b.sent+total fS s+openSum (·.sent) s
def toldC(s:RunS)(b:AnsS):Int:=b.came+total fC s+openSum (·.came) s
def sumC(s:RunS):Int:=(s.W.map (·.came)).sum
def sumS(s:RunS):Int:=(s.W.map (·.sent)).sum
theorem sums_bal(s:RunS):sumS s - sumC s=bal s:=by
 unfold sumS sumC bal
 induction s.W with
 |nil=>rfl
 |cons a r ih=>simp only[List.map_cons,List.sum_cons];omega
def Quiet(s:RunS):Prop:=total works s=0/\∀k x,s.W[k]?= some x->total (fW k) s=0->x.tasks=[]
structure WavesOK(s:RunS):Prop where
 none:s.answers=[]->total f6 s=0/\total f7 s=0
 many:∀L b,s.answers=L++ [b]->b.many+total f6 s+total f7 s=s.workers
 one:∀k,total (fW k) s<=1
 came:∀L b,s.answers=L++ [b]->toldC s b<=sumC s
 low:∀L a b,s.answers=L++ [a,b]->a.came<=told s b
 good:∀L a b,s.answers=L++ [a,b]->a.came < told s b\/b.idle=false\/0 < total fB s\/Quiet s
 zero:total (fW 0) s=0
theorem range_diff{F F':Nat->Int}{i:Nat}:∀{n:Nat},i < n->(∀k,k≠i->F' k=F k)->((List.range n).map F').sum+F i=((List.range n).map F).sum+F' i:=by
 intro n
 induction n with
 |zero=>intro h;omega
 |succ n ih=>
  intro h hk
  rw[List.range_succ,List.map_append,List.map_append,List.sum_append,List.sum_append]
  simp only[List.map_cons,List.map_nil,List.sum_cons,List.sum_nil]
  by_cases e:i=n
  ·subst e
   have:(List.range i).map F'=(List.range i).map F:=List.map_congr_left (fun k hk'=>hk k (by have:=List.mem_range.1 hk';omega))
   rw[this]
   omega
  ·have:=ih (by omega) hk
   rw[hk n (fun h=>e h.symm)]
   omega
theorem range_same{F F':Nat->Int}{n:Nat}(h:∀k,k < n->F' k=F k):((List.range n).map F').sum=((List.range n).map F).sum:=by
 rw[List.map_congr_left (fun k hk=>h k (List.mem_range.1 hk))]
structure Keeps67(s s':RunS):Prop where
 answers:s'.answers=s.answers
 workers:s'.workers=s.workers
 tot:∀f:MsgS->Nat,(∀m,m.kind≠6->m.kind≠7->f m=0)->total f s'=total f s
theorem off6(m:MsgS)(h6:m.kind≠6)(_h7:m.kind≠7):f6 m=0:=if_neg h6
theorem off7(m:MsgS)(_h6:m.kind≠6)(h7:m.kind≠7):f7 m=0:=if_neg h7
theorem offW(k:Nat)(m:MsgS)(h6:m.kind≠6)(_h7:m.kind≠7):fW k m=0:=if_neg (fun h=>h6 h.1)
theorem offS(m:MsgS)(_h6:m.kind≠6)(h7:m.kind≠7):fS m=0:=if_neg h7
theorem offC(m:MsgS)(_h6:m.kind≠6)(h7:m.kind≠7):fC m=0:=if_neg h7
theorem offB(m:MsgS)(_h6:m.kind≠6)(h7:m.kind≠7):fB m=0:=if_neg (fun h=>h7 h.1)
theorem openSum_set(g:WorkerS->Int){s s':RunS}(hk:Keeps67 s s'){i:Nat}{x x':WorkerS}(hx:s.W[i]?= some x)(hW:s'.W=s.W.set i x'):openSum g s'=openSum g s+(total (fW i) s:Int)*(g x' - g x):=by
 have hil:=(List.getElem?_eq_some_iff.1 hx).1
 have hlen:s'.W.length=s.W.length:=by rw[hW,List.length_set]
 have h1:=range_diff (F:=fun k=>(total (fW k) s:Int)*g (s.W[k]?.getD worker0)) (F':=fun k=>(total (fW k) s':Int)*g (s'.W[k]?.getD worker0)) (i:=i) (n:=s.W.length) hil (fun k hki=>by
  rw[hk.tot _ (offW k),hW,List.getElem?_set_ne (fun e=>hki e.symm)])
 rw[hk.tot _ (offW i),hW,List.getElem?_set_self hil,hx,Option.getD_some,Option.getD_some]at h1
 unfold openSum
 rw[hlen]
 rw[hW]
 rw[Int.mul_sub]
 omega
theorem openSum_same(g:WorkerS->Int){s s':RunS}(hk:Keeps67 s s')(hW:s'.W=s.W):openSum g s'=openSum g s:=by
 unfold openSum
 rw[hW]
 exact range_same (fun k _=>by rw[hk.tot _ (offW k)])
theorem WavesOK.same{s s':RunS}(h:WavesOK s)(hk:Keeps67 s s')(hW:s'.W=s.W)(hw:total works s'=total works s):WavesOK s':=by
 have t1:∀b,told s' b=told s b:=fun b=>by unfold told;rw[hk.tot _ offS,openSum_same _ hk hW]
 have t2:∀b,toldC s' b=toldC s b:=fun b=>by unfold toldC;rw[hk.tot _ offC,openSum_same _ hk hW]
 refine⟨fun e=> ?_,fun L b e=> ?_,fun k=> ?_,fun L b e=> ?_,fun L a b e=> ?_,fun L a b e=> ?_,by rw[hk.tot _ (offW 0)];exact h.zero⟩
 ·rw[hk.tot _ off6,hk.tot _ off7];exact h.none (hk.answers ▸e)
 ·rw[hk.tot _ off6,hk.tot _ off7,hk.workers];exact h.many L b (hk.answers ▸e)
 ·rw[hk.tot _ (offW k)];exact h.one k
 ·rw[t2];unfold sumC;rw[hW];exact h.came L b (hk.answers ▸e)
 ·rw[t1];exact h.low L a b (hk.answers ▸e)
 ·rw[t1,hk.tot _ offB]
  rcases h.good L a b (hk.answers ▸e)with g|g|g|⟨g1,g2⟩
  ·exact .inl g
  ·exact .inr (.inl g)
  ·exact .inr (.inr (.inl g))
  ·exact .inr (.inr (.inr ⟨by rw[hw];exact g1,fun k x hx h0=>g2 k x (by rw[<-hW];exact hx) (by rw[<-hk.tot _ (offW k)];exact h0)⟩))
theorem WavesOK.reworker{s s':RunS}(h:WavesOK s)(hk:Keeps67 s s'){i:Nat}{x x':WorkerS}(hx:s.W[i]?= some x)(hW:s'.W=s.W.set i x')(hs:x.sent<=x'.sent)(hc:x.came<=x'.came)(hq:Quiet s->Quiet s'\/(0 < total (fW i) s/\x.sent < x'.sent)):WavesOK s':=by
 have hil:=(List.getElem?_eq_some_iff.1 hx).1
 have o1:=h.one i
 have eS:=openSum_set (·.sent) hk hx hW
 have eC:=openSum_set (·.came) hk hx hW
 have t1:∀b,told s' b=told s b+(total (fW i) s:Int)*(x'.sent - x.sent):=fun b=>by unfold told;rw[hk.tot _ offS,eS];omega
 have t2:∀b,toldC s' b=toldC s b+(total (fW i) s:Int)*(x'.came - x.came):=fun b=>by unfold toldC;rw[hk.tot _ offC,eC];omega
 have hm1:0<=(total (fW i) s:Int)*(x'.sent - x.sent):=Int.mul_nonneg (by omega) (by omega)
 have hm2:(total (fW i) s:Int)*(x'.came - x.came)<=x'.came - x.came:=by
  rcases Nat.eq_zero_or_pos (total (fW i) s)with e|e
  ·rw[e];simp;omega
  ·have e1:total (fW i) s=1:=by omega
   rw[e1];simp
 have hsum:sumC s'+x.came=sumC s+x'.came:=by
  unfold sumC
  rw[hW]
  exact isum_set (fun x:WorkerS=>x.came) s.W i x' x hx
 refine⟨fun e=> ?_,fun L b e=> ?_,fun k=> ?_,fun L b e=> ?_,fun L a b e=> ?_,fun L a b e=> ?_,by rw[hk.tot _ (offW 0)];exact h.zero⟩
 ·rw[hk.tot _ off6,hk.tot _ off7];exact h.none (hk.answers ▸e)
 ·rw[hk.tot _ off6,hk.tot _ off7,hk.workers];exact h.many L b (hk.answers ▸e)
 ·rw[hk.tot _ (offW k)];exact h.one k
 ·have:=h.came L b (hk.answers ▸e)
  rw[t2]
  omega
 ·have:=h.low L a b (hk.answers ▸e)
  rw[t1]
  omega
 ·have hlow:=h.low L a b (hk.answers ▸e)
  rw[t1,hk.tot _ offB]
  rcases h.good L a b (hk.answers ▸e)with g|g|g|g
  ·exact .inl (by omega)
  ·exact .inr (.inl g)
  ·exact .inr (.inr (.inl g))
  ·rcases hq g with g'|⟨g1,g2⟩
   ·exact .inr (.inr (.inr g'))
   ·refine .inl ?_
    have e1:total (fW i) s=1:=by omega
    rw[e1]
    omega
theorem Keeps67.trans{a b c:RunS}(h:Keeps67 a b)(k:Keeps67 b c):Keeps67 a c:=⟨k.answers.trans h.answers,k.workers.trans h.workers,fun f hf=>(k.tot f hf).trans (h.tot f hf)⟩
theorem Keeps67.send{N:Nat}{s:RunS}(hf:Fine N s){m:MsgS}(hi:m.src.toNat < s.W.length)(hj:m.dst.toNat < s.W.length)(hk:m.kind≠6/\m.kind≠7):Keeps67 s (sendS s m):=
 ⟨(sendS_rest s m).1,sendS_workers s m,fun f h0=>by
  obtain⟨n,hn⟩:=total_send f hf m hi hj
  exact hn.trans (Nat.add_eq_left.2 (h0 _ hk.1 hk.2))⟩
theorem quiet_set{s s':RunS}(hk:Keeps67 s s'){i:Nat}{x x':WorkerS}(hx:s.W[i]?= some x)(hW:s'.W=s.W.set i x')(ht:x.tasks=[]->x'.tasks=[])(hw:total works s'=total works s)(h:Quiet s):Quiet s':=by
 have hil:=(List.getElem?_eq_some_iff.1 hx).1
 refine⟨by rw[hw];exact h.1,fun k y hy h0=> ?_⟩
 rw[hk.tot _ (offW k)]at h0
 rw[hW]at hy
 by_cases e:k=i
 ·subst e
  rw[List.getElem?_set_self hil]at hy
  obtain rfl:=Option.some.inj hy
  exact ht (h.2 k x hx h0)
 ·rw[List.getElem?_set_ne (fun e'=>e e'.symm)]at hy
  exact h.2 k y hy h0
theorem WavesOK.send{N:Nat}{s:RunS}(h:WavesOK s)(hf:Fine N s){m:MsgS}(hi:m.src.toNat < s.W.length)(hj:m.dst.toNat < s.W.length)(hk:m.kind≠6/\m.kind≠7)(hk2:m.kind≠2/\m.kind≠4):WavesOK (sendS s m):=by
 refine h.same (Keeps67.send hf hi hj hk) (sendS_W s m (by omega)) ?_
 obtain⟨n,hn⟩:=total_send works hf m hi hj
 rw[hn]
 have:works {m with no:=n}=0:=if_neg (by show¬(m.kind=2\/m.kind=4);omega)
 omega
theorem WavesOK.sendWork{N:Nat}{s s1:RunS}(h:WavesOK s)(h1:Keeps67 s s1)(hW1:s1.W=s.W){i:Nat}{x y:WorkerS}(hx:s.W[i]?= some x)(hne:x.tasks≠ [])(hy:y.sent=x.sent/\y.came=x.came){m:MsgS}(hf:Fine N {s1 with W:=s1.W.set i y})(hi:m.src.toNat=i)(hj:m.dst.toNat < s.W.length)(hk:m.kind=2\/m.kind=4):WavesOK (sendS {s1 with W:=s1.W.set i y} m):=by
 have hil:=(List.getElem?_eq_some_iff.1 hx).1
 have hl1:(s1.W.set i y).length=s.W.length:=by rw[List.length_set,hW1]
 have k2:Keeps67 s1 {s1 with W:=s1.W.set i y}:=⟨rfl,rfl,fun f _=>total_congr f rfl⟩
 have k3:=Keeps67.send hf (m:=m) (by show m.src.toNat < (s1.W.set i y).length;omega) (by show m.dst.toNat < (s1.W.set i y).length;omega) (by omega)
 have hget:({s1 with W:=s1.W.set i y}:RunS).W[i]?= some y:=by
  show(s1.W.set i y)[i]?= some y
  rw[hW1];exact List.getElem?_set_self hil
 have hW:(sendS {s1 with W:=s1.W.set i y} m).W=s.W.set i {y with sent:=y.sent+1}:=by
  rw[sendS_W2 _ m hk,hi,hget,Option.getD_some]
  show(s1.W.set i y).set i _=_
  rw[List.set_set,hW1]
 refine h.reworker ((h1.trans k2).trans k3) hx hW (by dsimp only;omega) (by dsimp only;omega) (fun hq=> .inr ⟨?_,by dsimp only;omega⟩)
 rcases Nat.eq_zero_or_pos (total (fW i) s)with e|e
 ·exact absurd (hq.2 i x hx e) hne
 ·exact e
theorem openSum_less(g:WorkerS->Int){s s':RunS}{j:Nat}{x:WorkerS}(hx:s.W[j]?= some x)(hW:s'.W=s.W)(hj:total (fW j) s'+1=total (fW j) s)(ho:∀k,k≠j->total (fW k) s'=total (fW k) s):openSum g s'+g x=openSum g s:=by
 have hjl:=(List.getElem?_eq_some_iff.1 hx).1
 have h1:=range_diff (F:=fun k=>(total (fW k) s:Int)*g (s.W[k]?.getD worker0)) (F':=fun k=>(total (fW k) s':Int)*g (s.W[k]?.getD worker0)) (i:=j) (n:=s.W.length) hjl (fun k hkj=>by rw[ho k hkj])
 rw[hx,Option.getD_some]at h1
 have e:(total (fW j) s:Int)=(total (fW j) s':Int)+1:=by omega
 rw[e,Int.add_mul,Int.one_mul]at h1
 unfold openSum
 rw[hW]
 omega
theorem WavesOK.step{N:Nat}{s:RunS}{i j:Nat}{m:MsgS}(h:WavesOK s)(hf:Fine N s)(hi:i < s.W.length)(hj:j < s.W.length)(hg:(linkOf s i j).all[(linkOf s i j).came.toNat]?= some m)(hm:MsgOK s.ks (s.answers≠ []) N i j (linkOf s i j).came.toNat m)(hf1:Fine N (setLink s i j {linkOf s i j with came:=(linkOf s i j).came+1})):WavesOK (cameS (setLink s i j {linkOf s i j with came:=(linkOf s i j).came+1}) m):=by
 have st:∀f:MsgS->Nat,total f (setLink s i j {linkOf s i j with came:=(linkOf s i j).came+1})+f m=total f s:=fun f=>total_step f hf hi hj hg
 obtain⟨s1,hs1⟩:∃s1,setLink s i j {linkOf s i j with came:=(linkOf s i j).came+1}=s1:=⟨_,rfl⟩
 have hW1:s1.W=s.W:=by rw[<-hs1];rfl
 have hA1:s1.answers=s.answers:=by rw[<-hs1];rfl
 have hR1:s1.workers=s.workers:=by rw[<-hs1];rfl
 rw[hs1]at st hf1 ⊢
 have hs0:=hm.src
 have hd0:=hm.dst
 have ejn:m.dst.toNat=j:=by omega
 have hx:s.W[j]?= some (s.W[j]'hj):=List.getElem?_eq_getElem _
 have k1:m.kind≠6->m.kind≠7->Keeps67 s s1:=fun h6 h7=>⟨hA1,hR1,fun f h0=>by have:=st f;rw[h0 m h6 h7]at this;omega⟩
 unfold cameS
 dsimp only
 rw[ejn,hW1,hx,Option.getD_some]
 generalize s.W[j]'_=x at hx ⊢
 have hxo:=hf.works x (List.mem_of_getElem? hx)
 have hks:s1.ks=s.ks:=by rw[<-hs1];rfl
 have h2w:=hf.two
 have hlenw:=hf.len
 split
 ·rename_i h1
  have k:=k1 (by omega) (by omega)
  split
  ·have k2:=Keeps67.send hf1 (m:={msg0 with src:=m.dst,dst:=m.src,kind:=3}) (by show m.dst.toNat < _;rw[hW1];omega) (by show m.src.toNat < _;rw[hW1];omega) ⟨by simp,by simp⟩
   refine h.same (k.trans k2) ((sendS_W s1 _ (by simp)).trans hW1) ?_
   obtain⟨n,hn⟩:=total_send works hf1 {msg0 with src:=m.dst,dst:=m.src,kind:=3} (by show m.dst.toNat < _;rw[hW1];omega) (by show m.src.toNat < _;rw[hW1];omega)
   have e1:=st works
   have e2:works m=0:=if_neg (by omega)
   have e9:total works s1=total works s:=by omega
   exact(hn.trans (Nat.add_eq_left.2 rfl)).trans e9
  ·rename_i t r ht
   have hwk:WorkerOK s1.ks N {x with tasks:=r}:=by rw[hks];exact⟨by have:=hxo.few;rw[ht]at this;simp at this;dsimp only;omega,fun c hc=>hxo.good c (by rw[ht];exact List.mem_cons_of_mem _ hc),hxo.sent,hxo.came,hxo.tok⟩
   rw[<-hW1]
   exact h.sendWork k hW1 hx (by rw[ht];simp) (y:={x with tasks:=r}) ⟨rfl,rfl⟩ (hf1.reworker j hwk (Nat.le_refl _)) ejn (by show m.src.toNat < _;omega) (.inl rfl)
 ·split
  ·rename_i h2
   have k:=k1 (by omega) (by omega)
   have e1:=st works
   have e2:works m=1:=if_pos (.inl h2)
   refine h.reworker (s':={s1 with W:=s.W.set j {x with came:=x.came+1,black:=true,asked:=false,tasks:=x.tasks++ [m.t]}}) (k.trans ⟨rfl,rfl,fun f _=>total_congr f rfl⟩) hx rfl (Int.le_refl _) (by dsimp only;omega) (fun hq=> ?_)
   have:=hq.1
   omega
  ·split
   ·rename_i h3
    have k:=k1 (by omega) (by omega)
    have e1:=st works
    have e2:works m=0:=if_neg (by omega)
    have kk:Keeps67 s {s1 with W:=s.W.set j {x with asked:=false}}:=k.trans ⟨rfl,rfl,fun f _=>total_congr f rfl⟩
    refine h.reworker kk hx rfl (Int.le_refl _) (Int.le_refl _) (fun hq=> .inl (quiet_set kk hx rfl (fun e=>e) ?_ hq))
    have e9:total works s1=total works s:=by omega
    exact(total_congr works rfl).trans e9
   ·split
    ·rename_i h4
     have k:=k1 (by omega) (by omega)
     have e1:=st works
     have e2:works m=1:=if_pos (.inr h4)
     refine h.reworker (s':={s1 with W:=s.W.set j {x with came:=x.came+1,black:=true},values:=putS s1.values m.v}) (k.trans ⟨rfl,rfl,fun f _=>total_congr f rfl⟩) hx rfl (Int.le_refl _) (by dsimp only;omega) (fun hq=> ?_)
     have:=hq.1
     omega
    ·split
     ·rename_i h5
      have k:=k1 (by omega) (by omega)
      have e1:=st works
      have e2:works m=0:=if_neg (by omega)
      have kk:Keeps67 s {s1 with W:=s.W.set j {x with has:=true,token:=m},around:=s1.around||m.dst==0}:=k.trans ⟨rfl,rfl,fun f _=>total_congr f rfl⟩
      refine h.reworker kk hx rfl (Int.le_refl _) (Int.le_refl _) (fun hq=> .inl (quiet_set kk hx rfl (fun e=>e) ?_ hq))
      have e9:total works s1=total works s:=by omega
      exact(total_congr works rfl).trans e9
     ·split
      ·-- a Wave
       rename_i h6
       have hi1:({msg0 with src:=m.dst,dst:=0,kind:=7,round:=m.round,sent:=x.sent,came:=x.came,idle:=x.tasks.isEmpty}:MsgS).src.toNat < s1.W.length:=by show m.dst.toNat < _;rw[hW1];omega
       have hj1:({msg0 with src:=m.dst,dst:=0,kind:=7,round:=m.round,sent:=x.sent,came:=x.came,idle:=x.tasks.isEmpty}:MsgS).dst.toNat < s1.W.length:=by show(0:Int).toNat < _;rw[hW1];simp;omega
       have sd:∀f:MsgS->Nat,(∀(m':MsgS) (n:Int),f {m' with no:=n}=f m')->total f (sendS s1 {msg0 with src:=m.dst,dst:=0,kind:=7,round:=m.round,sent:=x.sent,came:=x.came,idle:=x.tasks.isEmpty})+f m=total f s+f {msg0 with src:=m.dst,dst:=0,kind:=7,round:=m.round,sent:=x.sent,came:=x.came,idle:=x.tasks.isEmpty}:=fun f hno=>by
        obtain⟨n,hn⟩:=total_send f hf1 _ hi1 hj1
        rw[hno]at hn
        have:=st f
        omega
       have hWs:=sendS_W s1 {msg0 with src:=m.dst,dst:=0,kind:=7,round:=m.round,sent:=x.sent,came:=x.came,idle:=x.tasks.isEmpty} (by simp)
       have hrs:=sendS_rest s1 {msg0 with src:=m.dst,dst:=0,kind:=7,round:=m.round,sent:=x.sent,came:=x.came,idle:=x.tasks.isEmpty}
       have hws:=sendS_workers s1 {msg0 with src:=m.dst,dst:=0,kind:=7,round:=m.round,sent:=x.sent,came:=x.came,idle:=x.tasks.isEmpty}
       obtain⟨s2,hs2⟩:∃s2,sendS s1 {msg0 with src:=m.dst,dst:=0,kind:=7,round:=m.round,sent:=x.sent,came:=x.came,idle:=x.tasks.isEmpty}=s2:=⟨_,rfl⟩
       rw[hs2]at sd hWs hrs hws ⊢
       have hA2:s2.answers=s.answers:=hrs.1.trans hA1
       have q6:=sd f6 (fun _ _=>rfl)
       have q7:=sd f7 (fun _ _=>rfl)
       have qS:=sd fS (fun _ _=>rfl)
       have qC:=sd fC (fun _ _=>rfl)
       have qB:=sd fB (fun _ _=>rfl)
       have qw:=sd works (fun _ _=>rfl)
       have qW:=fun k=>sd (fW k) (fun _ _=>rfl)
       have m6:f6 m=1:=if_pos h6
       have m7:f7 m=0:=if_neg (by omega)
       have mS:fS m=0:=if_neg (by omega)
       have mC:fC m=0:=if_neg (by omega)
       have mB:fB m=0:=if_neg (by omega)
       have mw:works m=0:=if_neg (by omega)
       have mWj:fW j m=1:=if_pos ⟨h6,hd0⟩
       have mWk:∀k,k≠j->fW k m=0:=fun k hk=>if_neg (by omega)
       have r6:f6 {msg0 with src:=m.dst,dst:=0,kind:=7,round:=m.round,sent:=x.sent,came:=x.came,idle:=x.tasks.isEmpty}=0:=rfl
       have r7:f7 {msg0 with src:=m.dst,dst:=0,kind:=7,round:=m.round,sent:=x.sent,came:=x.came,idle:=x.tasks.isEmpty}=1:=rfl
       have rS:fS {msg0 with src:=m.dst,dst:=0,kind:=7,round:=m.round,sent:=x.sent,came:=x.came,idle:=x.tasks.isEmpty}=x.sent.toNat:=rfl
       have rC:fC {msg0 with src:=m.dst,dst:=0,kind:=7,round:=m.round,sent:=x.sent,came:=x.came,idle:=x.tasks.isEmpty}=x.came.toNat:=rfl
       have rw':works {msg0 with src:=m.dst,dst:=0,kind:=7,round:=m.round,sent:=x.sent,came:=x.came,idle:=x.tasks.isEmpty}=0:=rfl
       have rW:∀k,fW k {msg0 with src:=m.dst,dst:=0,kind:=7,round:=m.round,sent:=x.sent,came:=x.came,idle:=x.tasks.isEmpty}=0:=fun k=>if_neg (by simp)
       have hWW:s2.W=s.W:=hWs.trans hW1
       have wj:total (fW j) s2+1=total (fW j) s:=by have:=qW j;rw[rW,mWj]at this;omega
       have wk:∀k,k≠j->total (fW k) s2=total (fW k) s:=fun k hk=>by have:=qW k;rw[rW,mWk k hk]at this;omega
       have oS:=openSum_less (·.sent) hx hWW wj wk
       have oC:=openSum_less (·.came) hx hWW wj wk
       have hsn:=hxo.sent
       have hcn:=hxo.came
       have tS:∀b,told s2 b=told s b:=fun b=>by unfold told;omega
       have tC:∀b,toldC s2 b=toldC s b:=fun b=>by unfold toldC;omega
       refine⟨fun e=> ?_,fun L b e=> ?_,fun k=> ?_,fun L b e=> ?_,fun L a b e=> ?_,fun L a b e=> ?_,by
        have hz:=h.zero
        by_cases e:j=0
        ·subst e;omega
        ·rw[wk 0 (fun e'=>e e'.symm)];exact hz⟩
       ·have:=(h.none (hA2 ▸e)).1
        omega
       ·have:=h.many L b (hA2 ▸e)
        rw[hws,hR1]
        omega
       ·by_cases e:k=j
        ·subst e;have:=h.one k;omega
        ·rw[wk k e];exact h.one k
       ·rw[tC];unfold sumC;rw[hWW];exact h.came L b (hA2 ▸e)
       ·rw[tS];exact h.low L a b (hA2 ▸e)
       ·rw[tS]
        rcases h.good L a b (hA2 ▸e)with g|g|g|g
        ·exact .inl g
        ·exact .inr (.inl g)
        ·exact .inr (.inr (.inl (by omega)))
        ·by_cases ht:x.tasks=[]
         ·refine .inr (.inr (.inr ⟨by have:=g.1;omega,fun k y hy h0=> ?_⟩))
          rw[hWW]at hy
          by_cases e:k=j
          ·subst e
           rw[hx]at hy
           obtain rfl:=Option.some.inj hy
           exact ht
          ·exact g.2 k y hy (by rw[<-wk k e];exact h0)
         ·refine .inr (.inr (.inl ?_))
          have rB:fB {msg0 with src:=m.dst,dst:=0,kind:=7,round:=m.round,sent:=x.sent,came:=x.came,idle:=x.tasks.isEmpty}=1:=if_pos ⟨rfl,by
           show x.tasks.isEmpty=false
           cases hz:x.tasks with
           |nil=>exact absurd hz ht
           |cons a b=>rfl⟩
          omega
      ·split
       ·-- a Report
        rename_i h6 h7
        have hne:s.answers≠ []:=hm.told (.inr h7)
        obtain⟨L0,b0,hL0⟩:∃L0 b0,s.answers=L0++ [b0]:=by
         rcases List.eq_nil_or_concat s.answers with e|⟨L,b,e⟩
         ·exact absurd e hne
         ·exact⟨L,b,by rw[e,List.concat_eq_append]⟩
        have hnum:=hm.nums
        have hno:notedS s1 m.sent m.came m.idle={s1 with answers:=L0++ [⟨b0.many+1,b0.sent+m.sent,b0.came+m.came,b0.idle&&m.idle⟩]}:=by
         unfold notedS
         rw[hA1,hL0,List.getLast?_append,List.getLast?_singleton,Option.some_or,List.dropLast_concat]
        rw[hno]
        have tt:∀f:MsgS->Nat,total f {s1 with answers:=L0++ [⟨b0.many+1,b0.sent+m.sent,b0.came+m.came,b0.idle&&m.idle⟩]}+f m=total f s:=fun f=>(congrArg (·+ f m) (total_congr f rfl)).trans (st f)
        obtain⟨s2,hs2⟩:∃s2:RunS,{s1 with answers:=L0++ [⟨b0.many+1,b0.sent+m.sent,b0.came+m.came,b0.idle&&m.idle⟩]}=s2:=⟨_,rfl⟩
        have hWW:s2.W=s.W:=by rw[<-hs2];exact hW1
        have hRR:s2.workers=s.workers:=by rw[<-hs2];exact hR1
        have hAA:s2.answers=L0++ [⟨b0.many+1,b0.sent+m.sent,b0.came+m.came,b0.idle&&m.idle⟩]:=by rw[<-hs2]
        rw[hs2]at tt ⊢
        have q6:=tt f6
        have q7:=tt f7
        have qS:=tt fS
        have qC:=tt fC
        have qB:=tt fB
        have qw:=tt works
        have m6:f6 m=0:=if_neg (by omega)
        have m7:f7 m=1:=if_pos h7
        have mS:fS m=m.sent.toNat:=if_pos h7
        have mC:fC m=m.came.toNat:=if_pos h7
        have mw:works m=0:=if_neg (by omega)
        have wk:∀k,total (fW k) s2=total (fW k) s:=fun k=>by
         have e:fW k m=0:=if_neg (fun e=>h6 e.1)
         have:=tt (fW k)
         omega
        have os:∀g:WorkerS->Int,openSum g s2=openSum g s:=fun g=>by
         unfold openSum
         rw[hWW]
         exact range_same (fun k _=>by rw[wk k])
        have tS:told s2 ⟨b0.many+1,b0.sent+m.sent,b0.came+m.came,b0.idle&&m.idle⟩=told s b0:=by unfold told;rw[os];dsimp only;omega
        have tC:toldC s2 ⟨b0.many+1,b0.sent+m.sent,b0.came+m.came,b0.idle&&m.idle⟩=toldC s b0:=by unfold toldC;rw[os];dsimp only;omega
        have last1:∀L b,s2.answers=L++ [b]->L=L0/\b=⟨b0.many+1,b0.sent+m.sent,b0.came+m.came,b0.idle&&m.idle⟩:=fun L b e=>by
         rw[hAA]at e
         have:=List.append_inj' e rfl
         exact⟨this.1.symm,by have:=this.2;simp at this;exact this.symm⟩
        have last2:∀L a b,s2.answers=L++ [a,b]->s.answers=L++ [a,b0]/\b=⟨b0.many+1,b0.sent+m.sent,b0.came+m.came,b0.idle&&m.idle⟩:=fun L a b e=>by
         have e':s2.answers=(L++ [a])++ [b]:=by rw[e];simp
         obtain⟨e1,e2⟩:=last1 _ _ e'
         exact⟨by rw[hL0,<-e1];simp,e2⟩
        refine⟨fun e=>by rw[hAA]at e;simp at e,fun L b e=> ?_,fun k=>by rw[wk];exact h.one k,fun L b e=> ?_,fun L a b e=> ?_,fun L a b e=> ?_,by rw[wk];exact h.zero⟩
        ·obtain⟨-,rfl⟩:=last1 L b e
         have:=h.many L0 b0 hL0
         rw[hRR]
         dsimp only
         omega
        ·obtain⟨-,rfl⟩:=last1 L b e
         rw[tC];unfold sumC;rw[hWW];exact h.came L0 b0 hL0
        ·obtain⟨e1,rfl⟩:=last2 L a b e
         rw[tS];exact h.low L a b0 e1
        ·obtain⟨e1,rfl⟩:=last2 L a b e
         rw[tS]
         rcases h.good L a b0 e1 with g|g|g|g
         ·exact .inl g
         ·exact .inr (.inl (by dsimp only;rw[g];rfl))
         ·cases hid:m.idle with
          |false=>exact .inr (.inl (by simp))
          |true=>
           have mB:fB m=0:=if_neg (by rw[hid];simp)
           exact .inr (.inr (.inl (by omega)))
         ·exact .inr (.inr (.inr ⟨by have:=g.1;omega,fun k y hy h0=>g.2 k y (by rw[<-hWW];exact hy) (by rw[<-wk k];exact h0)⟩))
       ·rename_i h1 h2 h3 h4 h5 h6 h7
        have:=hm.kind
        omega
theorem Keeps67.refl(s:RunS):Keeps67 s s:=⟨rfl,rfl,fun _ _=>rfl⟩
theorem Same.keeps{s s':RunS}(e:Same s s'):Keeps67 s s':=⟨e.answers,e.workers,fun f _=>e.shape.2 f⟩
theorem WavesOK.deliver{N:Nat}{s:RunS}(h:WavesOK s)(hf:Fine N s)(hN:N+5<=90000000)(k:Int):WavesOK (deliverS s k).1:=
 deliver_ind (P:=WavesOK) (fun _ _ e hP=>hP.same e.keeps e.W (e.shape.2 works)) (fun _ _ _ _ _ hf _ hi hj hg hm hf1 hP=>hP.step hf hi hj hg hm hf1) h hf hN k
theorem WavesOK.work{N:Nat}{s:RunS}(ho:WavesOK s)(h:Fine N s)(i:Int):WavesOK (workS s i).1:=by
 unfold workS
 split
 ·exact ho
 ·rename_i hw
  obtain⟨h0,hlt⟩:=workerE_range hw
  obtain⟨hil,hie⟩:=h.nat h0 hlt
  split
  ·exact ho
  ·rename_i x hx
   have hxo:=h.works x (List.mem_of_getElem? hx)
   split
   ·exact ho
   ·rename_i t ht
    have htm:t∈x.tasks:=List.mem_of_getLast? ht
    have htn:x.tasks≠ []:=fun e=>by rw[e]at htm;simp at htm
    split
    ·exact ho.same ⟨rfl,rfl,fun f _=>total_congr f rfl⟩ rfl (total_congr works rfl)
    ·rename_i hroom
     dsimp only
     split
     ·rename_i hi0
      subst hi0
      refine ho.reworker (s':={s with W:=s.W.set (0:Int).toNat {x with tasks:=x.tasks.dropLast++children s.ks t},values:=putS s.values (t.id,valueOf s.ks t)}) ⟨rfl,rfl,fun f _=>total_congr f rfl⟩ hx rfl (Int.le_refl _) (Int.le_refl _) (fun hq=> ?_)
      exact absurd (hq.2 0 x hx ho.zero) htn
     ·have hne:x.tasks.length≠0:=fun e=>by rw[List.length_eq_zero_iff]at e;exact htn e
      have hwk:WorkerOK s.ks N {x with tasks:=x.tasks.dropLast++children s.ks t}:=by
       refine⟨?_,fun c hc=> ?_,hxo.sent,hxo.came,hxo.tok⟩
       ·have:=h.rmax
        simp
        omega
       ·rcases List.mem_append.1 hc with e|e
        ·exact hxo.good c ((List.dropLast_sublist _).subset e)
        ·exact childrenFrom_good h.prog (hxo.good t htm) c e
      have h2:=h.two
      have hlen:=h.len
      exact ho.sendWork (Keeps67.refl s) rfl hx htn (y:={x with tasks:=x.tasks.dropLast++children s.ks t}) ⟨rfl,rfl⟩ (h.reworker i.toNat hwk (Nat.le_refl _)) rfl (by show(0:Int).toNat < _;simp;omega) (.inr rfl)
theorem WavesOK.reflag{s:RunS}(ho:WavesOK s){i:Nat}{x x':WorkerS}(hx:s.W[i]?= some x)(h:x'.sent=x.sent/\x'.came=x.came/\x'.tasks=x.tasks):WavesOK {s with W:=s.W.set i x'}:=by
 have kk:Keeps67 s {s with W:=s.W.set i x'}:=⟨rfl,rfl,fun f _=>total_congr f rfl⟩
 exact ho.reworker kk hx rfl (by omega) (by omega) (fun hq=> .inl (quiet_set kk hx rfl (fun e=>by rw[h.2.2];exact e) (total_congr works rfl) hq))
theorem WavesOK.steal{N:Nat}{s:RunS}(ho:WavesOK s)(h:Fine N s)(i v:Int):WavesOK (stealS s i v).1:=by
 unfold stealS
 split
 ·exact ho
 ·rename_i hi
  split
  ·exact ho
  ·rename_i hv
   split
   ·exact ho
   ·obtain⟨hi0,hi1⟩:=workerE_range hi
    obtain⟨hv0,hv1⟩:=workerE_range hv
    obtain⟨hil,hie⟩:=h.nat hi0 hi1
    obtain⟨hvl,hve⟩:=h.nat hv0 hv1
    split
    ·exact ho
    ·rename_i x hx
     have hxo:=h.works x (List.mem_of_getElem? hx)
     split
     ·exact ho
     ·exact WavesOK.send (N:=N) (ho.reflag hx (x':={x with asked:=true}) ⟨rfl,rfl,rfl⟩) (h.reworker i.toNat (x:={x with asked:=true}) ⟨hxo.few,hxo.good,hxo.sent,hxo.came,hxo.tok⟩ (Nat.le_refl _)) (by simpa using hil) (by simpa using hvl) ⟨by simp,by simp⟩ ⟨by simp,by simp⟩
theorem WavesOK.pass{N:Nat}{s:RunS}(ho:WavesOK s)(h:Fine N s)(i:Int):WavesOK (passS s i).1:=by
 unfold passS
 split
 ·exact ho
 ·rename_i hw
  obtain⟨h0,hlt⟩:=workerE_range hw
  obtain⟨hil,hie⟩:=h.nat h0 hlt
  split
  ·exact ho
  ·rename_i x hx
   split
   ·exact ho
   ·rename_i hc
    have hi0:i≠0:=fun e=>hc (.inr (.inl e))
    have h1:=ho.send h (m:={msg0 with src:=i,dst:=i - 1,kind:=5,count:=x.token.count+x.sent - x.came,black:=x.token.black||x.black}) hil (by show(i - 1).toNat < _;omega) ⟨by simp,by simp⟩ ⟨by simp,by simp⟩
    have hsW:=sendS_W s {msg0 with src:=i,dst:=i - 1,kind:=5,count:=x.token.count+x.sent - x.came,black:=x.token.black||x.black} (by simp)
    exact h1.reflag (i:=i.toNat) (x:=x) (by rw[hsW];exact hx) ⟨rfl,rfl,rfl⟩
theorem waves_total{r:Int}(f:MsgS->Nat)(hno:∀(m:MsgS) (n:Int),f {m with no:=n}=f m):∀(L:List Nat) (N:Nat) (s:RunS),Fine N s->s.answers≠ []->(∀k∈L,1<=k/\k < s.W.length)->total f (L.foldl (waveS r) s)=total f s+(L.map fun(k:Nat)=>f {msg0 with src:=0,dst:=(k:Int),kind:=6,round:=r}).sum:=by
 intro L
 induction L with
 |nil=>intro N s _ _ _;simp
 |cons k L ih=>
  intro N s h hne hL
  have hk:=hL k (List.mem_cons_self ..)
  have hw:=Fine.waves (n:=r) [k] N s h hne (fun k' h'=>by rw[List.mem_singleton.1 h'];exact hk)
  have hr:=sendS_rest s {msg0 with src:=0,dst:=(k:Int),kind:=6,round:=r}
  obtain⟨n,hn⟩:=total_send f h {msg0 with src:=0,dst:=(k:Int),kind:=6,round:=r} (by show(0:Int).toNat < _;simp;omega) (by show(k:Int).toNat < _;simp;omega)
  rw[hno]at hn
  rw[List.foldl_cons,List.map_cons,List.sum_cons]
  have h9:=ih (N+1) (waveS r s k) hw (by show(sendS s _).answers≠ [];rw[hr.1];exact hne) (fun k' h'=>by
   have:=hL k' (List.mem_cons_of_mem _ h')
   refine⟨this.1,?_⟩
   show k' < (sendS s _).W.length
   rw[hr.2.1]
   exact this.2)
  rw[h9]
  have e:total f (waveS r s k)=total f s+f {msg0 with src:=0,dst:=(k:Int),kind:=6,round:=r}:=hn
  rw[e]
  omega
theorem waves_rest{r:Int}:∀(L:List Nat) (s:RunS),(L.foldl (waveS r) s).W=s.W/\(L.foldl (waveS r) s).answers=s.answers/\(L.foldl (waveS r) s).workers=s.workers:=by
 intro L
 induction L with
 |nil=>exact fun s=>⟨rfl,rfl,rfl⟩
 |cons k L ih=>
  intro s
  rw[List.foldl_cons]
  obtain⟨h1,h2,h3⟩:=ih (waveS r s k)
  exact⟨h1.trans (sendS_W s _ (by simp)),h2.trans (sendS_rest s _).1,h3.trans (sendS_workers s _)⟩
theorem sum_one(k:Nat):∀(n a:Nat),((List.range' a n).map fun(i:Nat)=>if i=k then 1 else 0).sum=if a<=k/\k < a+n then 1 else 0:=by
 intro n
 induction n with
 |zero=>intro a;rw[if_neg (by omega)];rfl
 |succ n ih=>
  intro a
  rw[List.range'_succ,List.map_cons,List.sum_cons,ih (a+1)]
  by_cases h1:a=k
  ·rw[if_pos h1,if_neg (by omega),if_pos (by omega)]
  ·rw[if_neg h1]
   by_cases h2:a+1<=k/\k < a+1+n
   ·rw[if_pos h2,if_pos (by omega)]
   ·rw[if_neg h2,if_neg (by omega)]
theorem sum_const{α:Type}:∀(l:List α) (g:α->Nat) (c:Nat),(∀a∈l,g a=c)->(l.map g).sum=l.length*c:=by
 intro l
 induction l with
 |nil=>intro g c _;simp
 |cons a l ih=>
  intro g c h
  rw[List.map_cons,List.sum_cons,h a (List.mem_cons_self ..),ih g c (fun b hb=>h b (List.mem_cons_of_mem _ hb)),List.length_cons,Nat.succ_mul]
  omega
theorem range_all(g:WorkerS->Int):∀l:List WorkerS,((List.range l.length).map fun k=>g (l[k]?.getD worker0)).sum=(l.map g).sum:=by
 intro l
 have:(List.range l.length).map (fun k=>g (l[k]?.getD worker0))=l.map g:=by
  refine List.ext_getElem? fun k=> ?_
  rw[List.getElem?_map,List.getElem?_map]
  rcases Nat.lt_or_ge k l.length with h|h
  ·rw[List.getElem?_range h]
   simp[List.getElem?_eq_getElem h]
  ·rw[List.getElem?_eq_none (by simpa using h),List.getElem?_eq_none h]
   rfl
 rw[this]
theorem zero_of{s:RunS}(z6:total f6 s=0)(z7:total f7 s=0)(f:MsgS->Nat)(hf:∀m,f6 m=0->f7 m=0->f m=0):total f s=0:=by
 have h9:∀l:List MsgS,(l.map f6).sum=0->(l.map f7).sum=0->(l.map f).sum=0:=fun l=>by
  induction l with
  |nil=>intro _ _;rfl
  |cons a l ih=>
   intro a1 a2
   simp only[List.map_cons,List.sum_cons]at a1 a2 ⊢
   have:=hf a (by omega) (by omega)
   have:=ih (by omega) (by omega)
   omega
 have h8:∀ls:List LinkS,(ls.map (linkSum f6)).sum=0->(ls.map (linkSum f7)).sum=0->(ls.map (linkSum f)).sum=0:=fun ls=>by
  induction ls with
  |nil=>intro _ _;rfl
  |cons a l ih=>
   intro a1 a2
   simp only[List.map_cons,List.sum_cons]at a1 a2 ⊢
   have h5:=h9 (a.all.drop a.came.toNat) (show linkSum f6 a=0 by omega) (show linkSum f7 a=0 by omega)
   have h6:linkSum f a=0:=h5
   have:=ih (by omega) (by omega)
   omega
 have h7:∀L:List (List LinkS),(L.map fun ls=>(ls.map (linkSum f6)).sum).sum=0->(L.map fun ls=>(ls.map (linkSum f7)).sum).sum=0->(L.map fun ls=>(ls.map (linkSum f)).sum).sum=0:=fun L=>by
  induction L with
  |nil=>intro _ _;rfl
  |cons a l ih=>
   intro a1 a2
   simp only[List.map_cons,List.sum_cons]at a1 a2 ⊢
   have:=h8 a (by omega) (by omega)
   have:=ih (by omega) (by omega)
   omega
 exact h7 s.links z6 z7
theorem openSum_zero(g:WorkerS->Int){s:RunS}(zW:∀k,total (fW k) s=0):openSum g s=0:=by
 unfold openSum
 have:((List.range s.W.length).map fun k=>(total (fW k) s:Int)*g (s.W[k]?.getD worker0)).sum=((List.range s.W.length).map fun _=>(0:Int)).sum:=range_same (fun k _=>by rw[zW k];simp)
 rw[this]
 generalize s.W.length=n
 induction n with
 |zero=>rfl
 |succ n ih=>rw[List.range_succ,List.map_append,List.sum_append,ih];rfl
structure Begins(s s2:RunS)(x:WorkerS):Prop where
 none:total f6 s=0/\total f7 s=0
 W:s2.W=s.W
 workers:s2.workers=s.workers
 answers:s2.answers=s.answers++ [⟨1,x.sent,x.came,true⟩]
 six:total f6 s2=s.W.length - 1
 seven:total f7 s2=0
 works:total works s2=total works s
 each:∀k,total (fW k) s2=if 1<=k/\k < s.W.length then 1 else 0
 told:told s2 ⟨1,x.sent,x.came,true⟩=sumS s
 toldC:toldC s2 ⟨1,x.sent,x.came,true⟩=sumC s
 busy:total fB s2=0
theorem waves_begin{N:Nat}{s:RunS}(ho:WavesOK s)(h:Fine N s)(hN:N<=1000000000){x:WorkerS}(hx:s.W[0]?= some x)(hop:openB s=false):Begins s ((List.range' 1 (s.W.length - 1)).foldl (waveS (s.answers.length+1)) (notedS {s with answers:=s.answers++ [⟨0,0,0,true⟩]} x.sent x.came true)) x:=by
 have h2:=h.two
 have hlw:=h.len
 have hxo:=h.works x (List.mem_of_getElem? hx)
 have hsn:=hxo.sent
 have hcn:=hxo.came
 have hno:notedS {s with answers:=s.answers++ [⟨0,0,0,true⟩]} x.sent x.came true={s with answers:=s.answers++ [⟨1,x.sent,x.came,true⟩]}:=by
  unfold notedS
  dsimp only
  rw[List.getLast?_append,List.getLast?_singleton,Option.some_or,List.dropLast_concat]
  simp
 have h3:Fine (N+1) {s with answers:=s.answers++ [⟨0,0,0,true⟩]}:=h.reans (by have:=h.alen;simp;omega) (by simp) (fun a ha=>by
  rcases List.mem_append.1 ha with e|e
  ·exact(h.ans a e).more (Nat.le_succ N)
  ·rw[List.mem_singleton.1 e];exact⟨by dsimp only;omega,by dsimp only;omega,by dsimp only;omega⟩) (Nat.le_succ N)
 have h4:=h3.noted (a:=x.sent) (b:=x.came) true (by omega) (by omega)
 rw[hno]at h4 ⊢
 obtain⟨s0,hs0⟩:∃s0:RunS,{s with answers:=s.answers++ [⟨1,x.sent,x.came,true⟩]}=s0:=⟨_,rfl⟩
 have hW0:s0.W=s.W:=by rw[<-hs0]
 have hA0:s0.answers=s.answers++ [⟨1,x.sent,x.came,true⟩]:=by rw[<-hs0]
 have hR0:s0.workers=s.workers:=by rw[<-hs0]
 have hT0:∀f,total f s0=total f s:=fun f=>by rw[<-hs0];exact total_congr f rfl
 rw[hs0]at h4 ⊢
 have hL:∀k∈List.range' 1 (s.W.length - 1),1<=k/\k < s0.W.length:=fun k hk=>by
  have:=List.mem_range'_1.1 hk
  rw[hW0]
  omega
 obtain⟨r1,r2,r3⟩:=waves_rest (r:=s.answers.length+1) (List.range' 1 (s.W.length - 1)) s0
 have wt:=fun f hno=>waves_total (r:=s.answers.length+1) f hno (List.range' 1 (s.W.length - 1)) _ s0 h4 (by rw[hA0];simp) hL
 obtain⟨s2,hs2⟩:∃s2,(List.range' 1 (s.W.length - 1)).foldl (waveS (s.answers.length+1)) s0=s2:=⟨_,rfl⟩
 rw[hs2]at r1 r2 r3 wt ⊢
 have hz:total f6 s=0/\total f7 s=0:=by
  rcases List.eq_nil_or_concat s.answers with e|⟨L,b,e⟩
  ·exact ho.none e
  ·rw[List.concat_eq_append]at e
   have hm:=ho.many L b e
   unfold openB at hop
   rw[e,List.getLast?_append,List.getLast?_singleton,Option.some_or]at hop
   have:¬b.many < s.workers:=by simpa using hop
   omega
 have n6:∀m,f6 m=0->¬m.kind=6:=fun m e h6=>by unfold f6 at e;rw[if_pos h6]at e;cases e
 have n7:∀m,f7 m=0->¬m.kind=7:=fun m e h7=>by unfold f7 at e;rw[if_pos h7]at e;cases e
 have zS:total fS s=0:=zero_of hz.1 hz.2 fS (fun m _ e=>if_neg (n7 m e))
 have zC:total fC s=0:=zero_of hz.1 hz.2 fC (fun m _ e=>if_neg (n7 m e))
 have zW:∀k,total (fW k) s=0:=fun k=>zero_of hz.1 hz.2 (fW k) (fun m e _=>if_neg (fun h=>n6 m e h.1))
 have wc:∀(f:MsgS->Nat) (c:Nat),(∀(m:MsgS) (n:Int),f {m with no:=n}=f m)->(∀k:Nat,f {msg0 with src:=0,dst:=(k:Int),kind:=6,round:=(s.answers.length:Int)+1}=c)->total f s2=total f s+(s.W.length - 1)*c:=fun f c h1 h2=>by
  have h3:=wt f h1
  rw[hT0]at h3
  have h4:=sum_const (List.range' 1 (s.W.length - 1)) (fun(k:Nat)=>f {msg0 with src:=0,dst:=(k:Int),kind:=6,round:=(s.answers.length:Int)+1}) c (fun k _=>h2 k)
  rw[List.length_range']at h4
  exact h3.trans (congrArg (total f s+ ·) h4)
 have q6:total f6 s2=s.W.length - 1:=by
  have:=wc f6 1 (fun _ _=>rfl) (fun _=>rfl)
  omega
 have q7:total f7 s2=0:=by
  have:=wc f7 0 (fun _ _=>rfl) (fun _=>rfl)
  omega
 have qS:total fS s2=0:=by
  have:=wc fS 0 (fun _ _=>rfl) (fun _=>rfl)
  omega
 have qC:total fC s2=0:=by
  have:=wc fC 0 (fun _ _=>rfl) (fun _=>rfl)
  omega
 have qw:total works s2=total works s:=by
  have:=wc works 0 (fun _ _=>rfl) (fun _=>rfl)
  omega
 have qW:∀k,total (fW k) s2=if 1<=k/\k < s.W.length then 1 else 0:=fun k=>by
  have:=wt (fW k) (fun _ _=>rfl)
  rw[hT0,zW]at this
  have e:((List.range' 1 (s.W.length - 1)).map (fun(i:Nat)=>fW k {msg0 with src:=0,dst:=(i:Int),kind:=6,round:=(s.answers.length:Int)+1})).sum=((List.range' 1 (s.W.length - 1)).map (fun(i:Nat)=>if i=k then 1 else 0)).sum:=by
   refine congrArg List.sum (List.map_congr_left (fun i _=> ?_))
   unfold fW
   by_cases hik:i=k
   ·rw[if_pos ⟨rfl,by show(i:Int)=k;omega⟩,if_pos hik]
   ·rw[if_neg (fun h=>hik (by have:(i:Int)=k:=h.2;omega)),if_neg hik]
  replace this:=this.trans (congrArg (0+ ·) (e.trans (sum_one k _ 1)))
  rw[this,Nat.zero_add]
  by_cases h9:1<=k/\k < s.W.length
  ·rw[if_pos (by omega),if_pos h9]
  ·rw[if_neg (by omega),if_neg h9]
 have hWW:s2.W=s.W:=r1.trans hW0
 have hRR:s2.workers=s.workers:=r3.trans hR0
 have hAA:s2.answers=s.answers++ [⟨1,x.sent,x.came,true⟩]:=r2.trans hA0
 have op:∀g:WorkerS->Int,openSum g s2+g x=(s.W.map g).sum:=fun g=>by
  have h1:=range_diff (F:=fun k=>(if k < s.W.length then(1:Int)else 0)*g (s.W[k]?.getD worker0)) (F':=fun k=>(total (fW k) s2:Int)*g (s.W[k]?.getD worker0)) (i:=0) (n:=s.W.length) (by omega) (fun k hk=>by
   rw[qW k]
   by_cases h9:k < s.W.length
   ·rw[if_pos ⟨by omega,h9⟩,if_pos h9];rfl
   ·rw[if_neg (fun h=>h9 h.2),if_neg h9];rfl)
  have z0:total (fW 0) s2=0:=by rw[qW,if_neg (by omega)]
  have p0:(if 0 < s.W.length then(1:Int)else 0)=1:=if_pos (by omega)
  rw[z0,p0,hx,Option.getD_some,Int.one_mul]at h1
  have h5:((List.range s.W.length).map fun k=>(if k < s.W.length then(1:Int)else 0)*g (s.W[k]?.getD worker0)).sum=(s.W.map g).sum:=by
   rw[<-range_all g s.W]
   exact range_same (fun k hk=>by rw[if_pos hk,Int.one_mul])
  unfold openSum
  rw[hWW]
  have h6:((0:Nat):Int)*g x=0:=by simp
  omega
 have o1:=op (·.sent)
 have o2:=op (·.came)
 have hSS:sumS s=(s.W.map (·.sent)).sum:=rfl
 have hCC:sumC s=(s.W.map (·.came)).sum:=rfl
 have tS:told s2 ⟨1,x.sent,x.came,true⟩=sumS s:=by unfold told;rw[qS];dsimp only at o1 ⊢;omega
 have tC:toldC s2 ⟨1,x.sent,x.came,true⟩=sumC s:=by unfold toldC;rw[qC];dsimp only at o2 ⊢;omega
 have qB:total fB s2=0:=by
  have:=wc fB 0 (fun _ _=>rfl) (fun _=>rfl)
  have z:total fB s=0:=zero_of hz.1 hz.2 fB (fun m _ e=>if_neg (fun h=>n7 m e h.1))
  omega
 exact⟨hz,hWW,hRR,hAA,q6,q7,qw,qW,tS,tC,qB⟩
theorem WavesOK.round{N:Nat}{s:RunS}(ho:WavesOK s)(hv:Even 0 s)(h:Fine N s)(hN:N<=1000000000){x:WorkerS}(hx:s.W[0]?= some x)(hi:x.tasks=[])(hop:openB s=false):WavesOK ((List.range' 1 (s.W.length - 1)).foldl (waveS (s.answers.length+1)) (notedS {s with answers:=s.answers++ [⟨0,0,0,true⟩]} x.sent x.came true)):=by
 have h2:=h.two
 have hlw:=h.len
 obtain⟨hz,hWW,hRR,hAA,q6,q7,qw,qW,tS,tC,-⟩:=waves_begin ho h hN hx hop
 generalize (List.range' 1 (s.W.length - 1)).foldl (waveS (s.answers.length+1)) (notedS {s with answers:=s.answers++ [⟨0,0,0,true⟩]} x.sent x.came true)=s2 at *
 have n6:∀m,f6 m=0->¬m.kind=6:=fun m e h6=>by unfold f6 at e;rw[if_pos h6]at e;cases e
 have n7:∀m,f7 m=0->¬m.kind=7:=fun m e h7=>by unfold f7 at e;rw[if_pos h7]at e;cases e
 have zC:total fC s=0:=zero_of hz.1 hz.2 fC (fun m _ e=>if_neg (n7 m e))
 have zW:∀k,total (fW k) s=0:=fun k=>zero_of hz.1 hz.2 (fW k) (fun m e _=>if_neg (fun h=>n6 m e h.1))
 have oz:∀g:WorkerS->Int,openSum g s=0:=fun g=>openSum_zero g zW
 have hbal:=sums_bal s
 have hev:=hv.eq
 have hC2:sumC s2=sumC s:=by unfold sumC;rw[hWW]
 have last1:∀L b,s2.answers=L++ [b]->L=s.answers/\b=⟨1,x.sent,x.came,true⟩:=fun L b e=>by
  rw[hAA]at e
  have:=List.append_inj' e rfl
  exact⟨this.1.symm,by have:=this.2;simp at this;exact this.symm⟩
 have last2:∀L a b,s2.answers=L++ [a,b]->s.answers=L++ [a]/\b=⟨1,x.sent,x.came,true⟩:=fun L a b e=>by
  have e':s2.answers=(L++ [a])++ [b]:=by rw[e];simp
  obtain⟨e1,e2⟩:=last1 _ _ e'
  exact⟨e1.symm,e2⟩
 have lowA:∀L a,s.answers=L++ [a]->a.came<=sumC s:=fun L a e=>by
  have:=ho.came L a e
  unfold toldC at this
  rw[zC,oz]at this
  omega
 refine⟨fun e=>by rw[hAA]at e;simp at e,fun L b e=> ?_,fun k=> ?_,fun L b e=> ?_,fun L a b e=> ?_,fun L a b e=> ?_,by rw[qW,if_neg (by omega)]⟩
 ·obtain⟨-,rfl⟩:=last1 L b e
  rw[q6,q7,hRR]
  dsimp only
  omega
 ·rw[qW]
  split<;>omega
 ·obtain⟨-,rfl⟩:=last1 L b e
  rw[tC,hC2]
  exact Int.le_refl _
 ·obtain⟨e1,rfl⟩:=last2 L a b e
  have:=lowA L a e1
  rw[tS]
  omega
 ·obtain⟨e1,rfl⟩:=last2 L a b e
  have hla:=lowA L a e1
  rw[tS]
  by_cases hlt:a.came < sumS s
  ·exact .inl hlt
  ·refine .inr (.inr (.inr ⟨by omega,fun k y hy h0=> ?_⟩))
   rw[hWW]at hy
   have hkl:=(List.getElem?_eq_some_iff.1 hy).1
   rw[qW]at h0
   have hk0:k=0:=by
    by_cases h9:1<=k/\k < s.W.length
    ·rw[if_pos h9]at h0;cases h0
    ·omega
   subst hk0
   rw[hx]at hy
   obtain rfl:=Option.some.inj hy
   exact hi
theorem WavesOK.check{N:Nat}{s:RunS}(ho:WavesOK s)(hv:Even 0 s)(h:Fine N s)(hN:N<=1000000000):WavesOK (checkS s).1:=by
 have h2:=h.two
 have hl:=h.len
 unfold checkS
 split
 ·exact ho
 ·split
  ·unfold ringS
   split
   ·exact ho
   ·rename_i x hx
    have hxo:=h.works x (List.mem_of_getElem? hx)
    split
    ·exact ho
    ·split
     ·exact ho.same ⟨rfl,rfl,fun f _=>total_congr f rfl⟩ rfl (total_congr works rfl)
     ·exact(ho.reflag hx (x':={x with black:=false,has:=false}) ⟨rfl,rfl,rfl⟩).send (h.reworker 0 (x:={x with black:=false,has:=false}) ⟨hxo.few,hxo.good,hxo.sent,hxo.came,hxo.tok⟩ (Nat.le_refl _)) (by show(0:Int).toNat < _;simp;omega) (by show(s.workers - 1).toNat < _;simp;omega) ⟨by simp,by simp⟩ ⟨by simp,by simp⟩
  ·unfold wavesS
   split
   ·exact ho
   ·rename_i x hx
    split
    ·exact ho
    ·rename_i hc
     have hi:x.tasks=[]:=by
      cases hb:x.tasks with
      |nil=>rfl
      |cons a b=>exact absurd (.inl (by rw[hb];simp)) hc
     have hop:openB s=false:=by
      cases hb:openB s with
      |false=>rfl
      |true=>exact absurd (.inr hb) hc
     split
     ·exact ho.same ⟨rfl,rfl,fun f _=>total_congr f rfl⟩ rfl (total_congr works rfl)
     ·exact ho.round hv h hN hx hi hop
theorem WavesOK.all{s:RunS}(ho:WavesOK s)(hop:openB s=false)(ht:twiceB s=true):(∀y∈s.W,y.tasks=[])/\total works s=0:=by
 unfold twiceB at ht
 split at ht
 ·rename_i b a r hr
  have e:s.answers=r.reverse++ [a,b]:=by
   have:=congrArg List.reverse hr
   simpa using this
  unfold alikeB at ht
  simp only[Bool.and_eq_true,beq_iff_eq]at ht
  obtain⟨⟨⟨t1,t2⟩,t3⟩,t4⟩:=ht
  have e':s.answers=(r.reverse++ [a])++ [b]:=by rw[e];simp
  have hm:=ho.many _ b e'
  unfold openB at hop
  rw[e',List.getLast?_append,List.getLast?_singleton,Option.some_or]at hop
  have hnl:¬b.many < s.workers:=by simpa using hop
  have z6:total f6 s=0:=by omega
  have z7:total f7 s=0:=by omega
  have n6:∀m,f6 m=0->¬m.kind=6:=fun m e h6=>by unfold f6 at e;rw[if_pos h6]at e;cases e
  have n7:∀m,f7 m=0->¬m.kind=7:=fun m e h7=>by unfold f7 at e;rw[if_pos h7]at e;cases e
  have zS:total fS s=0:=zero_of z6 z7 fS (fun m _ e=>if_neg (n7 m e))
  have zB:total fB s=0:=zero_of z6 z7 fB (fun m _ e=>if_neg (fun h=>n7 m e h.1))
  have zW:∀k,total (fW k) s=0:=fun k=>zero_of z6 z7 (fW k) (fun m e _=>if_neg (fun h=>n6 m e h.1))
  have oz:openSum (·.sent) s=0:=openSum_zero _ zW
  have hts:told s b=b.sent:=by unfold told;rw[zS,oz];omega
  rcases ho.good _ a b e with g|g|g|g
  ·rw[hts]at g;omega
  ·rw[t4]at g;cases g
  ·omega
  ·refine⟨fun y hy=> ?_,g.1⟩
   obtain⟨k,hk⟩:=List.getElem?_of_mem hy
   exact g.2 k y hk (zW k)
 ·cases ht
def Rest(s:RunS):Prop:=(∀y∈s.W,y.tasks=[])/\total works s=0
structure Sure(s:RunS):Prop where
 ring:RingOK s
 waves:WavesOK s
 even:Even 0 s
 rest:s.done=true->Rest s
theorem WavesOK.new(workers room mode kind arg:Int)(ks:List KindS):WavesOK (newS workers room mode ks kind arg):=by
 have hA:(newS workers room mode ks kind arg).answers=[]:=rfl
 refine⟨fun _=>⟨total_new _ _ _ _ _ _ _,total_new _ _ _ _ _ _ _⟩,fun L b e=> ?_,fun k=>by rw[total_new];omega,fun L b e=> ?_,fun L a b e=> ?_,fun L a b e=> ?_,total_new _ _ _ _ _ _ _⟩
 all_goals
  rw[hA]at e
  simp at e
theorem Sure.new{workers room mode kind arg:Int}{ks:List KindS}(hc:cfgB workers room mode=true)(hp:progB ks kind arg=true):Sure (newS workers room mode ks kind arg):=
 ⟨RingOK.new hc hp,WavesOK.new _ _ _ _ _ _,Even.new _ _ _ _ _ _,fun h=>by cases h⟩
theorem startE_done{s:RunS}(h:s.done=true):startE s≠0:=by
 unfold startE
 rw[if_pos h]
 decide
theorem workerE_done{s:RunS}(h:s.done=true)(i:Int):workerE s i≠0:=by
 unfold workerE
 have:=startE_done h
 split
 ·rename_i h'
  exact absurd h'.1 this
 ·exact this
theorem messageE_done{s:RunS}(h:s.done=true)(i:Int):messageE s i≠0:=by
 unfold messageE
 have:=startE_done h
 split
 ·rename_i h'
  exact absurd h'.1 this
 ·exact this
section
variable {N:Nat} {s:RunS}
theorem Sure.of(h:Sure s){s':RunS}(hr:RingOK s')(hw:WavesOK s')(he:Even 0 s')(hd:s'.done=true->s.done=false->Rest s')(hs:s.done=true->s'=s):Sure s':=by
 refine⟨hr,hw,he,fun e=> ?_⟩
 cases hb:s.done with
 |true=>rw[hs hb];exact h.rest hb
 |false=>exact hd e hb
theorem Sure.kept(h:Sure s){s':RunS}(hr:RingOK s')(hw:WavesOK s')(he:Even 0 s')(hd:s'.done=s.done)(hs:s.done=true->s'=s):Sure s':=
 h.of hr hw he (fun e e'=>by rw[hd,e']at e;cases e) hs
theorem Sure.work(h:Sure s)(hf:Fine N s)(i:Int):Sure (workS s i).1:=
 h.kept (h.ring.work hf i) (h.waves.work hf i) (h.even.work hf i) (workS_done s i) (fun e=>by unfold workS;rw[if_pos (workerE_done e i)])
theorem Sure.steal(h:Sure s)(hf:Fine N s)(i v:Int):Sure (stealS s i v).1:=
 h.kept (h.ring.steal hf i v) (h.waves.steal hf i v) (h.even.steal hf i v) (stealS_done s i v) (fun e=>by unfold stealS;rw[if_pos (workerE_done e i)])
theorem Sure.same(h:Sure s){s':RunS}(e:Same s s'):Sure s':=
 ⟨h.ring.same e,h.waves.same e.keeps e.W (e.shape.2 works),⟨by have:=h.even.eq;rw[bal_congr e.W,e.shape.2];exact this⟩,fun hd=>by
  have:=h.rest (by rw[<-e.done];exact hd)
  exact⟨by rw[e.W];exact this.1,by rw[e.shape.2];exact this.2⟩⟩
theorem Sure.drop(h:Sure s)(k:Int):Sure (dropS s k).1:=h.same (Same.drop s k)
theorem Sure.twice(h:Sure s)(k:Int):Sure (twiceS s k).1:=h.same (Same.twice s k)
theorem Sure.tick(h:Sure s)(i:Int):Sure (tickS s i).1:=h.same (Same.tick s i)
theorem Sure.deliver(h:Sure s)(hf:Fine N s)(hN:N+5<=90000000)(k:Int):Sure (deliverS s k).1:=
 h.kept (h.ring.deliver h.even hf hN k) (h.waves.deliver hf hN k) (h.even.deliver hf hN k) (deliverS_done s k) (fun e=>by unfold deliverS;rw[if_pos (messageE_done e k)])
theorem Sure.pass(h:Sure s)(hf:Fine N s)(i:Int):Sure (passS s i).1:=
 h.kept (h.ring.pass hf i) (h.waves.pass hf i) (h.even.pass hf i) (passS_done s i) (fun e=>by unfold passS;rw[if_pos (workerE_done e i)])
theorem waves_done{r:Int}:∀(L:List Nat) (s:RunS),(L.foldl (waveS r) s).done=s.done:=by
 intro L
 induction L with
 |nil=>exact fun s=>rfl
 |cons k L ih=>intro s;rw[List.foldl_cons];exact(ih _).trans (sendS_done s _)
theorem Sure.check(h:Sure s)(hf:Fine N s)(hN:N<=1000000000):Sure (checkS s).1:=by
 refine h.of (h.ring.check hf hN) (h.waves.check h.even hf hN) (h.even.check hf hN) (fun e e'=> ?_) (fun e=>by unfold checkS;rw[if_pos (startE_done e)])
 unfold checkS at e ⊢
 split at e
 ·rw[e']at e;cases e
 ·rename_i hst
  rw[if_neg hst]
  split at e
  ·rename_i hmode
   rw[if_pos hmode]
   unfold ringS at e ⊢
   split at e
   ·rw[e']at e;cases e
   ·rename_i x hx
    try simp only
    split at e
    ·rw[e']at e;cases e
    ·rename_i hc
     rw[if_neg hc]
     split at e
     ·rename_i hr
      rw[if_pos hr]
      have hh:x.has=true:=by
       cases hb:x.has with
       |true=>rfl
       |false=>exact absurd (.inl hb) hc
      have hi:x.tasks=[]:=by
       cases hb:x.tasks with
       |nil=>rfl
       |cons a b=>exact absurd (.inr (by rw[hb];simp)) hc
      have:=h.ring.all h.even hx hh hi hr
      exact⟨this.1,(total_congr works rfl).trans this.2⟩
     ·rw[sendS_done]at e
      have e2:s.done=true:=e
      rw[e']at e2;cases e2
  ·rename_i hmode
   rw[if_neg hmode]
   unfold wavesS at e ⊢
   split at e
   ·rw[e']at e;cases e
   ·rename_i x hx
    try simp only
    split at e
    ·rw[e']at e;cases e
    ·rename_i hc
     rw[if_neg hc]
     split at e
     ·rename_i ht
      rw[if_pos ht]
      have hop:openB s=false:=by
       cases hb:openB s with
       |false=>rfl
       |true=>exact absurd (.inr hb) hc
      have:=h.waves.all hop ht
      exact⟨this.1,(total_congr works rfl).trans this.2⟩
     ·rw[waves_done]at e
      unfold notedS at e
      split at e
      ·have e2:s.done=true:=e
       rw[e']at e2;cases e2
      ·have e2:s.done=true:=e
       rw[e']at e2;cases e2
end
theorem mass_work_some{N:Nat}{s:RunS}(h:Fine N s)(i:Int)(h0:(workS s i).2=0):∃x t,s.W[i.toNat]?= some x/\x.tasks.getLast?= some t/\∀(g:TaskS->Nat) (o:ByteArray->Nat),mass g o (workS s i).1+g t=mass g o s+o t.id+((children s.ks t).map g).sum:=by
 unfold workS at h0 ⊢
 split at h0
 ·rename_i hw
  exact absurd h0 hw
 ·rename_i hw
  rw[if_neg hw]
  obtain⟨hlo,hlt⟩:=workerE_range hw
  obtain⟨hil,hie⟩:=h.nat hlo hlt
  split at h0
  ·cases h0
  ·rename_i x hx
   have hxo:=h.works x (List.mem_of_getElem? hx)
   split at h0
   ·cases h0
   ·rename_i t ht
    have htm:t∈x.tasks:=List.mem_of_getLast? ht
    refine⟨x,t,hx,ht,fun g o=> ?_⟩
    split at h0
    ·cases h0
    ·rename_i hroom
     simp only
     rw[if_neg hroom]
     have hsum:(x.tasks.map g).sum=(x.tasks.dropLast.map g).sum+g t:=by
      have hne:x.tasks≠ []:=fun e=>by rw[e]at htm;simp at htm
      have e:=List.dropLast_concat_getLast hne
      have e2:x.tasks.getLast hne=t:=by
       have:=List.getLast?_eq_some_getLast hne
       rw[this]at ht
       exact Option.some.inj ht
      rw[e2]at e
      conv=>lhs;rw[<-e]
      rw[sum_append]
      simp
     have e1:=tasksSum_set g (s:=s) (x':={x with tasks:=x.tasks.dropLast++children s.ks t}) hx
     dsimp only at e1
     rw[sum_append,hsum]at e1
     have a2:mass g o s=tasksSum g s+(s.values.map fun v=>o v.1).sum+total (weigh g o) s:=rfl
     split
     ·have a1:mass g o {s with W:=s.W.set i.toNat {x with tasks:=x.tasks.dropLast++children s.ks t},values:=putS s.values (t.id,valueOf s.ks t)}=tasksSum g {s with W:=s.W.set i.toNat {x with tasks:=x.tasks.dropLast++children s.ks t}}+((putS s.values (t.id,valueOf s.ks t)).map fun v=>o v.1).sum+total (weigh g o) s:=rfl
      rw[putS_sum]at a1
      dsimp only at a1
      show mass g o {s with W:=s.W.set i.toNat {x with tasks:=x.tasks.dropLast++children s.ks t},values:=putS s.values (t.id,valueOf s.ks t)}+g t=_
      omega
     ·rename_i hi0
      have hwk:WorkerOK s.ks N {x with tasks:=x.tasks.dropLast++children s.ks t}:=by
       refine⟨?_,fun c hc=> ?_,hxo.sent,hxo.came,hxo.tok⟩
       ·have:=h.rmax
        have:x.tasks.length≠0:=fun e=>by rw[List.length_eq_zero_iff]at e;rw[e]at htm;simp at htm
        simp
        omega
       ·rcases List.mem_append.1 hc with e|e
        ·exact hxo.good c ((List.dropLast_sublist _).subset e)
        ·exact childrenFrom_good h.prog (hxo.good t htm) c e
      have h2:=h.two
      have hlen:=h.len
      have b:=mass_send g o (h.reworker i.toNat hwk (Nat.le_refl _)) {msg0 with src:=i,dst:=0,kind:=4,v:=(t.id,valueOf s.ks t)} (by simpa using hil) (by simp;omega)
      rw[b]
      have a1:mass g o {s with W:=s.W.set i.toNat {x with tasks:=x.tasks.dropLast++children s.ks t}}=tasksSum g {s with W:=s.W.set i.toNat {x with tasks:=x.tasks.dropLast++children s.ks t}}+(s.values.map fun v=>o v.1).sum+total (weigh g o) s:=rfl
      have a3:weigh g o {msg0 with src:=i,dst:=0,kind:=4,v:=(t.id,valueOf s.ks t)}=o t.id:=by simp[weigh]
      omega
theorem mass_work_none{s:RunS}(i:Int)(h0:(workS s i).2≠0)(g:TaskS->Nat)(o:ByteArray->Nat):mass g o (workS s i).1=mass g o s:=by
 unfold workS at h0 ⊢
 split at h0
 ·rename_i h
  rw[if_pos h]
 ·rename_i h
  rw[if_neg h]
  split at h0
  ·rfl
  ·rename_i x hx
   split at h0
   ·rename_i ht
    simp only
   ·rename_i t ht
    simp only
    split at h0
    ·rename_i hr
     rw[if_pos hr]
     rfl
    ·dsimp only at h0
     split at h0<;>exact absurd rfl h0
structure Play(did:List ByteArray)(s:RunS):Prop where
 sure:Sure s
 own:Own (·∈allTasks s.ks s.kind s.arg) s
 all:∀o,mass (treeSum s.ks o) o s=treeSum s.ks o ⟨⟨#[]⟩,s.kind,s.arg⟩
 dids:∀o,(did.map o).sum=mass (fun _=>0) o s
 byIds:ByIds s.values
theorem prog_good{ks:List KindS}{kind arg:Int}(h:progB ks kind arg=true):Good ks ⟨⟨#[]⟩,kind,arg⟩/\arg<=12:=by
 simp only[progB,Bool.and_eq_true,numB,rangeB,decide_eq_true_eq]at h
 obtain⟨⟨⟨h1,h2⟩,h3⟩,h4⟩:=h
 refine⟨⟨?_,?_,?_,?_⟩,h4.2⟩
 ·exact h3.1
 ·show kind < _;omega
 ·exact h4.1
 ·show((0:Nat):Int)+arg<=12;omega
theorem Play.new{workers room mode kind arg:Int}{ks:List KindS}(hc:cfgB workers room mode=true)(hp:progB ks kind arg=true):Play [] (newS workers room mode ks kind arg):=by
 refine⟨Sure.new hc hp,Own.new ?_,fun o=>mass_new _ _ _ _ _ _,fun o=>(mass_new (g:=fun _=>0) (o:=o) workers room mode kind arg ks).symm,?_⟩
 ·exact List.mem_cons_self ..
 ·exact List.Pairwise.nil
section
variable {N:Nat} {s s':RunS} {did:List ByteArray}
theorem Play.of(h:Play did s)(e:Stays s s')(hs:Sure s')(ho:Own (·∈allTasks s.ks s.kind s.arg) s')(hm:∀g o,mass g o s'=mass g o s):Play did s':=by
 refine⟨hs,?_,fun o=> ?_,fun o=> ?_,e.vals h.byIds⟩
 ·rw[e.ks,e.kind,e.arg];exact ho
 ·rw[e.ks,e.kind,e.arg,hm];exact h.all o
 ·rw[hm];exact h.dids o
theorem Play.steal(h:Play did s)(hf:Fine N s)(i v:Int):Play did (stealS s i v).1:=h.of (.steal s i v) (h.sure.steal hf i v) (h.own.steal hf i v) (fun _ _=>mass_steal hf i v)
theorem Play.drop(h:Play did s)(k:Int):Play did (dropS s k).1:=h.of (.drop s k) (h.sure.drop k) (h.own.drop k) (fun _ _=>mass_drop s k)
theorem Play.twice(h:Play did s)(k:Int):Play did (twiceS s k).1:=h.of (.twice s k) (h.sure.twice k) (h.own.twice k) (fun _ _=>mass_twice s k)
theorem Play.tick(h:Play did s)(i:Int):Play did (tickS s i).1:=h.of (.tick s i) (h.sure.tick i) (h.own.tick i) (fun _ _=>mass_tick s i)
theorem Play.deliver(h:Play did s)(hf:Fine N s)(hN:N+5<=90000000)(k:Int):Play did (deliverS s k).1:=h.of (.deliver s k) (h.sure.deliver hf hN k) (h.own.deliver hf hN k) (fun _ _=>mass_deliver hf hN k)
theorem Play.pass(h:Play did s)(hf:Fine N s)(i:Int):Play did (passS s i).1:=h.of (.pass s i) (h.sure.pass hf i) (h.own.pass hf i) (fun _ _=>mass_pass hf i)
theorem Play.check(h:Play did s)(hf:Fine N s)(hN:N<=1000000000):Play did (checkS s).1:=h.of (.check s) (h.sure.check hf hN) (h.own.check hf hN) (fun _ _=>mass_check hf hN)
theorem Play.work(h:Play did s)(hf:Fine N s)(i:Int):((workS s i).2≠0/\Play did (workS s i).1)\/((workS s i).2=0/\∃x t,s.W[i.toNat]?= some x/\x.tasks.getLast?= some t/\Play (did++ [t.id]) (workS s i).1):=by
 have hown:=h.own.work hf (fun t ht c hc=>tree_closed hf.prog 12 _ (prog_good hf.prog).1 (by show s.arg<=((12:Nat):Int);exact(prog_good hf.prog).2) t ht c hc) i
 by_cases h0:(workS s i).2=0
 ·refine .inr ⟨h0,?_⟩
  obtain⟨x,t,hx,ht,hm⟩:=mass_work_some hf i h0
  refine⟨x,t,hx,ht,?_⟩
  have e:=Stays.work s i
  refine⟨h.sure.work hf i,?_,fun o=> ?_,fun o=> ?_,e.vals h.byIds⟩
  ·rw[e.ks,e.kind,e.arg];exact hown
  ·rw[e.ks,e.kind,e.arg,mass_work hf rfl (tree_counts hf.prog o) i];exact h.all o
  ·have a:=hm (fun _=>0) o
   have b:=h.dids o
   rw[List.map_append,List.sum_append]
   rw[sum_zero]at a
   simp only[List.map_cons,List.map_nil,List.sum_cons,List.sum_nil]
   omega
 ·exact .inl ⟨h0,h.of (.work s i) (h.sure.work hf i) hown (fun g o=>mass_work_none i h0 g o)⟩
end
theorem all_same:∀{l:List TaskS},l.Pairwise (fun a b=>idl a < idl b)->∀{a b:TaskS},a∈l->b∈l->a.id=b.id->a=b
 |[],_,a,b,ha,_,_=>by cases ha
 |c :: l,h,a,b,ha,hb,e=>by
  obtain⟨h1,h2⟩:=List.pairwise_cons.1 h
  rcases List.mem_cons.1 ha with rfl|ha'
  ·rcases List.mem_cons.1 hb with rfl|hb'
   ·rfl
   ·have:=h1 b hb'
    unfold idl at this
    rw[e]at this
    exact absurd this (List.lt_irrefl _)
  ·rcases List.mem_cons.1 hb with rfl|hb'
   ·have:=h1 a ha'
    unfold idl at this
    rw[e]at this
    exact absurd this (List.lt_irrefl _)
   ·exact all_same h2 ha' hb' e
theorem tree_self(ks:List KindS)(o:ByteArray->Nat)(t:TaskS):o t.id<=treeSum ks o t:=by
 unfold treeSum
 have e:tree ks 12 t=t :: (children ks t).flatMap (tree ks 11):=rfl
 rw[e,List.map_cons,List.sum_cons]
 omega
theorem sum_le_sum{α:Type}{f g:α->Nat}(h:∀a,f a<=g a):∀l:List α,(l.map f).sum<=(l.map g).sum
 |[]=>Nat.le_refl _
 |a :: l=>by
  rw[List.map_cons,List.map_cons,List.sum_cons,List.sum_cons]
  exact Nat.add_le_add (h a) (sum_le_sum h l)
theorem tasksSum_le{f g:TaskS->Nat}(h:∀a,f a<=g a)(s:RunS):tasksSum f s<=tasksSum g s:=sum_le_sum (f:=fun x:WorkerS=>(x.tasks.map f).sum) (g:=fun x=>(x.tasks.map g).sum) (fun x=>sum_le_sum h x.tasks) s.W
theorem total_le{f g:MsgS->Nat}(h:∀a,f a<=g a)(s:RunS):total f s<=total g s:=sum_le_sum (fun ls=>sum_le_sum (fun _=>sum_le_sum h _) ls) s.links
def idsS(W:List WorkerS):List ByteArray:=W.flatMap fun x=>x.tasks.map (·.id)
theorem ids_sum(o:ByteArray->Nat):∀W:List WorkerS,((idsS W).map o).sum=(W.map fun x=>(x.tasks.map fun t=>o t.id).sum).sum
 |[]=>rfl
 |x :: W=>by
  have e:idsS (x :: W)=x.tasks.map (·.id)++idsS W:=rfl
  rw[e,List.map_append,List.sum_append,ids_sum o W,List.map_cons,List.sum_cons,List.map_map]
  rfl
theorem sum_none{α:Type}{f:α->Nat}:∀{l:List α},(∀a∈l,f a=0)->(l.map f).sum=0
 |[],_=>rfl
 |a :: l,h=>by rw[List.map_cons,List.sum_cons,h a (List.mem_cons_self ..),sum_none (fun b hb=>h b (List.mem_cons_of_mem _ hb))]
theorem sum_ones{α:Type}:∀l:List α,(l.map (fun _=>(1:Nat))).sum=l.length
 |[]=>rfl
 |a :: l=>by rw[List.map_cons,List.sum_cons,sum_ones l,List.length_cons];omega
theorem Play.few{s:RunS}{did:List ByteArray}(h:Play did s):(idsS s.W).length+did.length<=(allTasks s.ks s.kind s.arg).length:=by
 have h2:=h.all (fun _=>1)
 have h3:=h.dids (fun _=>1)
 rw[sum_ones]at h3
 have e1:treeSum s.ks (fun _=>1) ⟨⟨#[]⟩,s.kind,s.arg⟩=(allTasks s.ks s.kind s.arg).length:=sum_ones _
 have e2:mass (treeSum s.ks (fun _=>1)) (fun _=>1) s=tasksSum (treeSum s.ks (fun _=>1)) s+(s.values.map fun _=>1).sum+total (weigh (treeSum s.ks (fun _=>1)) (fun _=>1)) s:=rfl
 have e3:mass (fun _=>0) (fun _=>1) s=tasksSum (fun _=>0) s+(s.values.map fun _=>1).sum+total (weigh (fun _=>0) (fun _=>1)) s:=rfl
 have a1:tasksSum (fun _=>1) s<=tasksSum (treeSum s.ks (fun _=>1)) s:=tasksSum_le (fun t=>tree_self s.ks (fun _=>1) t) s
 have a2:tasksSum (fun _=>0) s=0:=by
  unfold tasksSum
  simp only[sum_zero]
 have a3:total (weigh (fun _=>0) (fun _=>1)) s<=total (weigh (treeSum s.ks (fun _=>1)) (fun _=>1)) s:=total_le (fun m=>by unfold weigh;split<;>first|exact Nat.zero_le _|exact Nat.le_refl _) s
 have a4:=ids_sum (fun _=>1) s.W
 rw[sum_ones]at a4
 have a5:tasksSum (fun _=>1) s=(s.W.map fun x=>(x.tasks.map fun _=>1).sum).sum:=rfl
 omega
theorem Play.rest{s:RunS}{did:List ByteArray}(h:Play did s)(hr:Rest s)(o:ByteArray->Nat):(s.values.map fun v=>o v.1).sum=treeSum s.ks o ⟨⟨#[]⟩,s.kind,s.arg⟩/\(did.map o).sum=treeSum s.ks o ⟨⟨#[]⟩,s.kind,s.arg⟩:=by
 have t0:∀g,tasksSum g s=0:=fun g=>sum_none (fun x hx=>by rw[hr.1 x hx];rfl)
 have w0:∀g,total (weigh g o) s=0:=fun g=>sum_none (fun ls h1=>sum_none (fun l h2=>sum_none (fun m hm=>by
  have a:works m<=linkSum works l:=mem_sum works _ m hm
  have b:linkSum works l<=(ls.map (linkSum works)).sum:=mem_sum _ _ l h2
  have c:(ls.map (linkSum works)).sum<=total works s:=mem_sum (fun ls:List LinkS=>(ls.map (linkSum works)).sum) _ ls h1
  have d:=hr.2
  have e:works m=0:=by omega
  unfold works at e
  unfold weigh
  split
  ·rename_i h'
   rw[if_pos (.inl h')]at e
   cases e
  ·split
   ·rename_i h'
    rw[if_pos (.inr h')]at e
    cases e
   ·rfl)))
 have h2:=h.all o
 have h3:=h.dids o
 unfold mass at h2 h3
 rw[t0,w0]at h2 h3
 omega
theorem Play.announced{N:Nat}{s:RunS}{did:List ByteArray}(h:Play did s)(hf:Fine N s)(hd:s.done=true):s.values=pairsOf s.ks (allTasks s.ks s.kind s.arg)/\did.length=(allTasks s.ks s.kind s.arg).length/\∀x∈s.W,x.tasks=[]:=by
 have hr:=h.sure.rest hd
 refine⟨?_,?_,hr.1⟩
 ·refine byIds_eq h.byIds (List.pairwise_map.2 (all_order hf.prog)) ?_
  refine perm_of (fun v=> ?_)
  have hc:∀(l:List (ByteArray×Int)),(∀u∈l,∃t∈allTasks s.ks s.kind s.arg,u=(t.id,valueOf s.ks t))->(l.map fun y=>if y=v then 1 else 0).sum=open Classical in if∃t∈allTasks s.ks s.kind s.arg,v=(t.id,valueOf s.ks t)then(l.map fun u=>isId v.1 u.1).sum else 0:=by
   intro l hl
   split
   ·rename_i hex
    obtain⟨t,ht,e⟩:=hex
    refine congrArg List.sum (List.map_congr_left (fun u hu=> ?_))
    obtain⟨t',ht',e'⟩:=hl u hu
    have:u=v ↔ u.1=v.1:=by
     refine⟨fun h=>by rw[h],fun h=> ?_⟩
     have h':t'.id=t.id:=by rw[e,e']at h;exact h
     have:=all_same (all_order hf.prog) ht' ht h'
     rw[e,e',this]
    unfold isId
    by_cases q:u.1=v.1
    ·rw[if_pos (this.2 q),if_pos q]
    ·rw[if_neg (fun h=>q (this.1 h)),if_neg q]
   ·rename_i hex
    refine sum_none (fun u hu=>if_neg (fun e=>hex ?_))
    rw[<-e]
    exact hl u hu
  rw[hc _ h.own.vals,hc (pairsOf s.ks (allTasks s.ks s.kind s.arg)) (fun u hu=>by
   obtain⟨t,ht,e⟩:=List.mem_map.1 hu
   exact⟨t,ht,e.symm⟩)]
  rw[(h.rest hr (isId v.1)).1]
  unfold pairsOf
  rw[List.map_map]
  rfl
 ·have:=(h.rest hr (fun _=>1)).2
  rw[sum_ones]at this
  rw[this]
  exact sum_ones _
def askN(m:MsgS):Nat:=if m.kind=1\/m.kind=6 then 1 else 0
def loadM(m:MsgS):Nat:=if m.kind=0 then 1 else 2
def load(s:RunS):Nat:=(s.way.map loadM).sum+2*total askN s
def crowd(s:RunS):Nat:=s.way.length+total askN s
theorem linkOf_sends(s:RunS)(m:MsgS)(hl:s.links.length=s.W.length)(hr:∀ls∈s.links,ls.length=s.W.length)(hi:m.src.toNat < s.W.length)(hj:m.dst.toNat < s.W.length)(a b:Nat):linkOf (sendS s m) a b=if a=m.src.toNat/\b=m.dst.toNat then{linkOf s a b with all:=(linkOf s a b).all++ [{m with no:=(linkOf s a b).all.length+1}]}else linkOf s a b:=by
 have h:=linkOf_set {linkOf s m.src.toNat m.dst.toNat with all:=(linkOf s m.src.toNat m.dst.toNat).all++ [{m with no:=(linkOf s m.src.toNat m.dst.toNat).all.length+1}]} hl hr hi hj a b
 have e:linkOf (sendS s m) a b=linkOf (setLink s m.src.toNat m.dst.toNat {linkOf s m.src.toNat m.dst.toNat with all:=(linkOf s m.src.toNat m.dst.toNat).all++ [{m with no:=(linkOf s m.src.toNat m.dst.toNat).all.length+1}]}) a b:=by
  unfold sendS wayS linkOf setLink
  dsimp only
  split<;>split<;>rfl
 rw[e,h]
 split
 ·rename_i q
  obtain⟨rfl,rfl⟩:=q
  rfl
 ·rfl
theorem sendS_way(s:RunS)(m:MsgS):(sendS s m).way=if s.way.length < 60 then s.way++ [{m with no:=(linkOf s m.src.toNat m.dst.toNat).all.length+1}]else s.way:=by
 unfold sendS wayS linkOf
 dsimp only
 split<;>split<;>rfl
theorem cameS_cases(s:RunS)(m:MsgS)(h6:m.kind=6->m.src=0):(askN m=0/\(cameS s m).links=s.links/\(cameS s m).way=s.way/\(cameS s m).W.length=s.W.length)\/(askN m=1/\∃s1 m',s1.links=s.links/\s1.way=s.way/\s1.W.length=s.W.length/\m'.src=m.dst/\m'.dst=m.src/\((m.kind=1/\(m'.kind=2\/m'.kind=3))\/(m.kind=6/\m'.kind=7))/\cameS s m=sendS s1 m'):=by
 unfold askN
 by_cases h1:m.kind=1
 ·refine .inr ⟨by simp[h1],?_⟩
  unfold cameS
  dsimp only
  rw[if_pos h1]
  split
  ·exact⟨s,_,rfl,rfl,rfl,rfl,rfl,.inl ⟨h1,.inr rfl⟩,rfl⟩
  ·refine⟨_,_,?_,?_,?_,?_,?_,?_,rfl⟩
   ·rfl
   ·rfl
   ·exact List.length_set ..
   ·rfl
   ·rfl
   ·exact .inl ⟨h1,.inl rfl⟩
 ·by_cases h6':m.kind=6
  ·refine .inr ⟨by simp[h6'],?_⟩
   unfold cameS
   dsimp only
   rw[if_neg h1,if_neg (by omega),if_neg (by omega),if_neg (by omega),if_neg (by omega),if_pos h6']
   exact⟨s,_,rfl,rfl,rfl,rfl,(h6 h6').symm,.inr ⟨h6',rfl⟩,rfl⟩
  ·refine .inl ⟨if_neg (by omega),?_⟩
   unfold cameS notedS
   dsimp only
   rw[if_neg h1]
   repeat' split
   all_goals first|exact absurd (by assumption) h6'|simp
structure Coming(i j:Nat)(s s':RunS):Prop where
 way:∃t,s'.way=s.way++t/\t.length+total askN s'<=total askN s/\∀m∈t,m.kind≠0
 all:∀a b,(linkOf s a b).all <+: (linkOf s' a b).all
 came:∀a b,¬(a=i/\b=j)->(linkOf s' a b).came=(linkOf s a b).came
 up:(linkOf s i j).came<=(linkOf s' i j).came
 known:∀a b,(linkOf s' a b).known=(linkOf s a b).known
theorem Coming.refl(i j:Nat)(s:RunS):Coming i j s s:=⟨⟨[],by simp,by simp,by simp⟩,fun _ _=>List.prefix_refl _,fun _ _ _=>rfl,Int.le_refl _,fun _ _=>rfl⟩
theorem Coming.trans{i j:Nat}{a b c:RunS}(h:Coming i j a b)(k:Coming i j b c):Coming i j a c:=by
 obtain⟨t1,e1,l1,n1⟩:=h.way
 obtain⟨t2,e2,l2,n2⟩:=k.way
 refine⟨⟨t1++t2,by rw[e2,e1,List.append_assoc],by rw[List.length_append];omega,fun m hm=> ?_⟩,fun x y=>(h.all x y).trans (k.all x y),fun x y e=>(k.came x y e).trans (h.came x y e),Int.le_trans h.up k.up,fun x y=>(k.known x y).trans (h.known x y)⟩
 rcases List.mem_append.1 hm with e|e
 ·exact n1 m e
 ·exact n2 m e
theorem Coming.thing{N:Nat}{s:RunS}(h:Fine N s){i j:Nat}{m:MsgS}(hi:i < s.W.length)(hj:j < s.W.length)(hm1:(linkOf s i j).all[(linkOf s i j).came.toNat]?= some m)(hm2:MsgOK s.ks (s.answers≠ []) N i j (linkOf s i j).came.toNat m)(hm3:Fine N (setLink s i j {linkOf s i j with came:=(linkOf s i j).came+1})):Coming i j s (cameS (setLink s i j {linkOf s i j with came:=(linkOf s i j).came+1}) m)/\(linkOf (cameS (setLink s i j {linkOf s i j with came:=(linkOf s i j).came+1}) m) i j).came=(linkOf s i j).came+1:=by
 have hsrc:=hm2.src
 have hdst:=hm2.dst
 have ht:=total_step askN h hi hj hm1
 have hls:=fun a b=>linkOf_set {linkOf s i j with came:=(linkOf s i j).came+1} h.llen h.lrow hi hj a b
 generalize hS:setLink s i j {linkOf s i j with came:=(linkOf s i j).came+1}=S at *
 have hSW:S.W=s.W:=by rw[<-hS];rfl
 have hSy:S.way=s.way:=by rw[<-hS];rfl
 have hb1:∀a b,(linkOf S a b).all=(linkOf s a b).all/\(linkOf S a b).known=(linkOf s a b).known:=fun a b=>by
  rw[hls]
  split
  ·rename_i q
   obtain⟨rfl,rfl⟩:=q
   exact⟨rfl,rfl⟩
  ·exact⟨rfl,rfl⟩
 have hb2:∀a b,¬(a=i/\b=j)->(linkOf S a b).came=(linkOf s a b).came:=fun a b q=>by rw[hls,if_neg q]
 have hb3:(linkOf S i j).came=(linkOf s i j).came+1:=by rw[hls,if_pos ⟨rfl,rfl⟩]
 rcases cameS_cases S m (fun h=>by rw[hsrc,hm2.wave h];rfl)with⟨h0,hl,hy,-⟩|⟨h1,s1,m',e1,e2,e3,e4,e5,e6,e7⟩
 ·have hlk:∀a b,linkOf (cameS S m) a b=linkOf S a b:=fun a b=>by unfold linkOf;rw[hl]
  refine⟨⟨⟨[],by rw[hy,hSy];simp,by rw[total_congr askN hl];simp;omega,by simp⟩,fun a b=>by rw[hlk,(hb1 a b).1];exact List.prefix_refl _,fun a b q=>by rw[hlk,hb2 a b q],by rw[hlk,hb3];omega,fun a b=>by rw[hlk,(hb1 a b).2]⟩,by rw[hlk,hb3]⟩
 ·have hfl:s1.links.length=s1.W.length:=by rw[e1,e3];exact hm3.llen
  have hfr:∀ls∈s1.links,ls.length=s1.W.length:=by rw[e1,e3];exact hm3.lrow
  have hmi:m'.src.toNat < s1.W.length:=by rw[e3,e4,hdst,hSW];simpa using hj
  have hmj:m'.dst.toNat < s1.W.length:=by rw[e3,e5,hsrc,hSW];simpa using hi
  have hq:=linkOf_sends s1 m' hfl hfr hmi hmj
  have hlk:∀a b,linkOf s1 a b=linkOf S a b:=fun a b=>by unfold linkOf;rw[e1]
  have hk0:∀n,askN {m' with no:=n}=0:=fun n=>if_neg (by show¬(m'.kind=1\/m'.kind=6);omega)
  have htot:total askN (sendS s1 m')=total askN S:=by
   have a:=total_set askN {linkOf s1 m'.src.toNat m'.dst.toNat with all:=(linkOf s1 m'.src.toNat m'.dst.toNat).all++ [{m' with no:=(linkOf s1 m'.src.toNat m'.dst.toNat).all.length+1}]} hfl hfr hmi hmj
   have b:total askN (sendS s1 m')=total askN (setLink s1 m'.src.toNat m'.dst.toNat {linkOf s1 m'.src.toNat m'.dst.toNat with all:=(linkOf s1 m'.src.toNat m'.dst.toNat).all++ [{m' with no:=(linkOf s1 m'.src.toNat m'.dst.toNat).all.length+1}]}):=by
    refine total_congr askN ?_
    unfold sendS wayS linkOf setLink
    dsimp only
    split<;>split<;>rfl
   have hc:(linkOf s1 m'.src.toNat m'.dst.toNat).came.toNat<=(linkOf s1 m'.src.toNat m'.dst.toNat).all.length:=by
    rw[hlk]
    have:=(hm3.links m'.src.toNat m'.dst.toNat (by rw[<-e3];exact hmi) (by rw[<-e3];exact hmj)).came
    omega
   have c:linkSum askN {linkOf s1 m'.src.toNat m'.dst.toNat with all:=(linkOf s1 m'.src.toNat m'.dst.toNat).all++ [{m' with no:=(linkOf s1 m'.src.toNat m'.dst.toNat).all.length+1}]}=linkSum askN (linkOf s1 m'.src.toNat m'.dst.toNat):=by
    unfold linkSum
    dsimp only
    rw[List.drop_append_of_le_length hc,List.map_append,List.sum_append]
    simp[hk0]
   have d:total askN s1=total askN S:=total_congr askN e1
   omega
  rw[e7]
  refine⟨⟨⟨if s1.way.length < 60 then [{m' with no:=(linkOf s1 m'.src.toNat m'.dst.toNat).all.length+1}]else [],?_,?_,?_⟩,fun a b=> ?_,fun a b q=> ?_,?_,fun a b=> ?_⟩,?_⟩
  ·rw[sendS_way,e2,hSy]
   split<;>simp
  ·rw[htot]
   split<;>simp<;>omega
  ·split
   ·intro x hx
    rw[List.mem_singleton.1 hx]
    show m'.kind≠0
    omega
   ·simp
  ·rw[hq]
   split
   ·dsimp only
    rw[hlk,(hb1 a b).1]
    exact List.prefix_append _ _
   ·rw[hlk,(hb1 a b).1]
    exact List.prefix_refl _
  ·rw[hq]
   split<;>((try dsimp only);rw[hlk,hb2 a b q])
  ·rw[hq]
   split<;>((try dsimp only);rw[hlk,hb3];omega)
  ·rw[hq]
   split<;>((try dsimp only);rw[hlk,(hb1 a b).2])
  ·rw[hq]
   split<;>((try dsimp only);rw[hlk,hb3])
theorem Coming.step{N:Nat}{s:RunS}(h:Fine N s){i j:Nat}(hi:i < s.W.length)(hj:j < s.W.length)(hb:nextB (linkOf s i j)=true):Coming i j s (stepS s i j)/\(linkOf (stepS s i j) i j).came=(linkOf s i j).came+1:=by
 obtain⟨m,hm1,hm2,hm3,hm4⟩:=next_msg h hi hj hb
 rw[hm4]
 exact Coming.thing h hi hj hm1 hm2 hm3
theorem Coming.come{i j:Nat}:∀(f d N:Nat) (s:RunS),Fine N s->i < s.W.length->j < s.W.length->N+d<=90000000->(∀n∈(linkOf s i j).kept,n<=(linkOf s i j).came+d)->Coming i j s (comeS f s i j)/\(0 < f->nextB (linkOf s i j)=true->(linkOf s i j).came+1<=(linkOf (comeS f s i j) i j).came):=by
 intro f
 induction f with
 |zero=>intro d N s _ _ _ _ _;exact⟨.refl i j s,fun h=>absurd h (by omega)⟩
 |succ f ih=>
  intro d N s h hi hj hN hd
  unfold comeS
  split
  ·rename_i hb
   obtain⟨h1,h2,h3,h4⟩:=h.step (by omega) hi hj hb
   have hd1:=hd _ h4
   obtain⟨c1,c2⟩:=Coming.step h hi hj hb
   obtain⟨k1,k2⟩:=ih (d - 1) (N+1) _ h1 (by omega) (by omega) (by omega) (fun n hn=>by rw[h2]at hn ⊢;have:=hd n hn;dsimp only;omega)
   refine⟨c1.trans k1,fun _ _=> ?_⟩
   have:=k1.up
   omega
  ·rename_i hb
   exact⟨.refl i j s,fun _ h=>absurd h hb⟩
structure Arrived(h:MsgS)(r:List MsgS)(s s':RunS):Prop where
 way:∃t,s'.way=r++t/\∀m∈t,m.kind=0->m.src=h.dst/\m.dst=h.src/\m.no=(linkOf s' h.src.toNat h.dst.toNat).came
 thin:crowd s'<=crowd s
 less:load s'+1<=load s
 all:∀a b,(linkOf s a b).all <+: (linkOf s' a b).all
 ack:h.kind≠0->crowd s<=60->∃m∈s'.way,m.kind=0/\m.src=h.dst/\m.dst=h.src/\m.no=(linkOf s' h.src.toNat h.dst.toNat).came
 came:∀a b,¬(h.kind≠0/\a=h.src.toNat/\b=h.dst.toNat)->(linkOf s' a b).came=(linkOf s a b).came
 up:∀a b,(linkOf s a b).came<=(linkOf s' a b).came
 next:h.kind≠0->h.no=(linkOf s h.src.toNat h.dst.toNat).came+1->h.no<=(linkOf s' h.src.toNat h.dst.toNat).came
 known:∀a b,(linkOf s a b).known<=(linkOf s' a b).known/\((linkOf s' a b).known=(linkOf s a b).known\/(h.kind=0/\a=h.dst.toNat/\b=h.src.toNat/\(linkOf s' a b).known=h.no))
 told:h.kind=0->h.no<=(linkOf s' h.dst.toNat h.src.toNat).known
theorem keepS_rest(l:LinkS)(n:Int):(keepS l n).all=l.all/\(keepS l n).came=l.came/\(keepS l n).known=l.known:=by
 unfold keepS
 split<;>exact⟨rfl,rfl,rfl⟩
theorem keepS_next(l:LinkS):nextB (keepS l (l.came+1))=true:=by
 unfold keepS
 split
 ·unfold nextB
  simp
 ·rename_i h
  unfold nextB
  rw[List.any_eq_true]
  by_cases q:l.kept.any (·== l.came+1)=false
  ·exact absurd ⟨by omega,by omega,q⟩ h
  ·rw[Bool.not_eq_false]at q
   exact List.any_eq_true.1 q
theorem way_cut{s:RunS}{k:Nat}{h:MsgS}(hk:s.way[k]?= some h)(f:MsgS->Nat):((s.way.take k++s.way.drop (k+1)).map f).sum+f h=(s.way.map f).sum:=by
 obtain⟨hlt,he⟩:=List.getElem?_eq_some_iff.1 hk
 have e:s.way=s.way.take k++h :: s.way.drop (k+1):=by
  rw[<-he,<-List.drop_eq_getElem_cons hlt,List.take_append_drop]
 conv=>rhs;rw[e]
 simp only[List.map_append,List.sum_append,List.map_cons,List.sum_cons]
 omega
theorem deliver_arrives{N:Nat}{s:RunS}(hF:Fine N s)(hN:N+5<=90000000){k:Nat}{h:MsgS}(hk:s.way[k]?= some h)(hs:messageE s (k:Int)=0):(deliverS s (k:Int)).2=0/\Arrived h (s.way.take k++s.way.drop (k+1)) s (deliverS s (k:Int)).1:=by
 have hw:=hF.ways _ (List.mem_of_getElem? hk)
 have hlt:=(List.getElem?_eq_some_iff.1 hk).1
 obtain⟨hsl,hse⟩:=hF.nat hw.src.1 hw.src.2
 obtain⟨hdl,hde⟩:=hF.nat hw.dst.1 hw.dst.2
 have hu:=hF.unway k
 have hlen:(s.way.take k++s.way.drop (k+1)).length+1=s.way.length:=by simp;omega
 have hsum:=way_cut hk loadM
 unfold deliverS
 rw[if_neg (by rw[hs];simp)]
 simp only[Int.toNat_natCast]
 rw[hk,Option.getD_some]
 generalize hS:{s with way:=s.way.take k++s.way.drop (k+1)}=S at *
 have hlk:∀a b,linkOf S a b=linkOf s a b:=fun a b=>by rw[<-hS];rfl
 have hSy:S.way=s.way.take k++s.way.drop (k+1):=by rw[<-hS]
 have hSt:∀f,total f S=total f s:=fun f=>by rw[<-hS];exact total_congr f rfl
 have hSW:S.W=s.W:=by rw[<-hS]
 rw[<-hSW]at hsl hdl
 split
 ·rename_i h0
  refine⟨rfl,?_⟩
  dsimp only
  split
  ·rename_i hn
   have hls:=fun a b=>linkOf_set {linkOf S h.dst.toNat h.src.toNat with known:=h.no} hu.llen hu.lrow hdl hsl a b
   have ht:=fun f=>total_set f {linkOf S h.dst.toNat h.src.toNat with known:=h.no} hu.llen hu.lrow hdl hsl
   have hb:∀a b,(linkOf (setLink S h.dst.toNat h.src.toNat {linkOf S h.dst.toNat h.src.toNat with known:=h.no}) a b).all=(linkOf s a b).all/\(linkOf (setLink S h.dst.toNat h.src.toNat {linkOf S h.dst.toNat h.src.toNat with known:=h.no}) a b).came=(linkOf s a b).came:=fun a b=>by
    rw[hls]
    split
    ·rename_i q
     obtain⟨rfl,rfl⟩:=q
     dsimp only
     rw[hlk]
     exact⟨rfl,rfl⟩
    ·rw[hlk]
     exact⟨rfl,rfl⟩
   have ht':∀f,total f (setLink S h.dst.toNat h.src.toNat {linkOf S h.dst.toNat h.src.toNat with known:=h.no})=total f s:=fun f=>by
    have a:=ht f
    have b:linkSum f {linkOf S h.dst.toNat h.src.toNat with known:=h.no}=linkSum f (linkOf S h.dst.toNat h.src.toNat):=rfl
    have c:=hSt f
    omega
   have hy:(setLink S h.dst.toNat h.src.toNat {linkOf S h.dst.toNat h.src.toNat with known:=h.no}).way=s.way.take k++s.way.drop (k+1):=hSy
   refine⟨⟨[],by rw[hy];simp,by simp⟩,?_,?_,fun a b=>by rw[(hb a b).1];exact List.prefix_refl _,fun q=>absurd h0 q,fun a b _=>(hb a b).2,fun a b=>by rw[(hb a b).2];exact Int.le_refl _,fun q=>absurd h0 q,fun a b=> ?_,fun _=> ?_⟩
   ·unfold crowd
    rw[hy,ht']
    omega
   ·unfold load
    rw[hy,ht']
    have:loadM h=1:=if_pos h0
    omega
   ·rw[hls]
    split
    ·rename_i q
     obtain⟨rfl,rfl⟩:=q
     dsimp only
     rw[hlk]at hn
     exact⟨by omega,.inr ⟨h0,rfl,rfl,rfl⟩⟩
    ·rw[hlk]
     exact⟨Int.le_refl _,.inl rfl⟩
   ·rw[hls,if_pos ⟨rfl,rfl⟩]
    exact Int.le_refl _
  ·rename_i hn
   refine⟨⟨[],by rw[hSy];simp,by simp⟩,?_,?_,fun a b=>by rw[hlk];exact List.prefix_refl _,fun q=>absurd h0 q,fun a b _=>by rw[hlk],fun a b=>by rw[hlk];exact Int.le_refl _,fun q=>absurd h0 q,fun a b=>by rw[hlk];exact⟨Int.le_refl _,.inl rfl⟩,fun _=>by omega⟩
   ·unfold crowd
    rw[hSy,hSt]
    omega
   ·unfold load
    rw[hSy,hSt]
    have:loadM h=1:=if_pos h0
    omega
 ·rename_i h0
  refine⟨rfl,?_⟩
  dsimp only
  obtain⟨n,hn,hne⟩:=hw.sent h0
  have hnl:=(List.getElem?_eq_some_iff.1 hne).1
  have hkp:=hu.keep hsl hdl (n:=h.no) (by rw[hn,hlk];omega)
  have hls:=fun a b=>linkOf_set (keepS (linkOf S h.src.toNat h.dst.toNat) h.no) hu.llen hu.lrow hsl hdl a b
  have ht:=total_set askN (keepS (linkOf S h.src.toNat h.dst.toNat) h.no) hu.llen hu.lrow hsl hdl
  have hks:=keepS_rest (linkOf S h.src.toNat h.dst.toNat) h.no
  have ht2:linkSum askN (keepS (linkOf S h.src.toNat h.dst.toNat) h.no)=linkSum askN (linkOf S h.src.toNat h.dst.toNat):=by
   unfold linkSum
   rw[hks.1,hks.2.1]
  obtain⟨hC,hC2⟩:=Coming.come ((linkOf S h.src.toNat h.dst.toNat).all.length+1) 4 _ _ hkp hsl hdl (by omega) (fun a ha=>((hkp.links _ _ hsl hdl).kept a ha).2.2)
  have hnb:h.no=(linkOf s h.src.toNat h.dst.toNat).came+1->nextB (linkOf (setLink S h.src.toNat h.dst.toNat (keepS (linkOf S h.src.toNat h.dst.toNat) h.no)) h.src.toNat h.dst.toNat)=true:=fun e=>by
   rw[hls,if_pos ⟨rfl,rfl⟩,e,<-hlk]
   exact keepS_next _
  have hKy:(setLink S h.src.toNat h.dst.toNat (keepS (linkOf S h.src.toNat h.dst.toNat) h.no)).way=S.way:=rfl
  generalize setLink S h.src.toNat h.dst.toNat (keepS (linkOf S h.src.toNat h.dst.toNat) h.no)=K at *
  have hKl:∀a b,(linkOf K a b).all=(linkOf s a b).all/\(linkOf K a b).came=(linkOf s a b).came/\(linkOf K a b).known=(linkOf s a b).known:=fun a b=>by
   rw[hls]
   split
   ·rename_i q
    obtain⟨rfl,rfl⟩:=q
    rw[<-hlk]
    exact hks
   ·rw[hlk]
    exact⟨rfl,rfl,rfl⟩
  have hKt:total askN K=total askN s:=by
   have:=hSt askN
   omega
  generalize comeS ((linkOf S h.src.toNat h.dst.toNat).all.length+1) K h.src.toNat h.dst.toNat=C at *
  obtain⟨t,hy,htl,htk⟩:=hC.way
  have hlw:∀a b,linkOf (wayS C {msg0 with src:=h.dst,dst:=h.src,kind:=0,no:=(linkOf C h.src.toNat h.dst.toNat).came}) a b=linkOf C a b:=fun a b=>by unfold linkOf;rw[(wayS_rest _ _).1]
  have htw:∀f,total f (wayS C {msg0 with src:=h.dst,dst:=h.src,kind:=0,no:=(linkOf C h.src.toNat h.dst.toNat).came})=total f C:=fun f=>total_congr f (wayS_rest _ _).1
  have hwy:(wayS C {msg0 with src:=h.dst,dst:=h.src,kind:=0,no:=(linkOf C h.src.toNat h.dst.toNat).came}).way=if C.way.length < 60 then C.way++ [{msg0 with src:=h.dst,dst:=h.src,kind:=0,no:=(linkOf C h.src.toNat h.dst.toNat).came}]else C.way:=by
   unfold wayS
   split<;>rfl
  rw[hKy,hSy]at hy
  have hts:(t.map loadM).sum<=2*t.length:=by
   clear hy htl htk
   induction t with
   |nil=>simp
   |cons a t ih=>
    rw[List.map_cons,List.sum_cons,List.length_cons]
    have:loadM a<=2:=by unfold loadM;split<;>omega
    omega
  refine⟨⟨t++if C.way.length < 60 then [{msg0 with src:=h.dst,dst:=h.src,kind:=0,no:=(linkOf C h.src.toNat h.dst.toNat).came}]else [],?_,?_⟩,?_,?_,fun a b=> ?_,fun _ hc=> ?_,fun a b q=> ?_,fun a b=> ?_,fun _ e=> ?_,fun a b=> ?_,fun q=>absurd q h0⟩
  ·rw[hwy,hy]
   split<;>simp
  ·intro m hm hm0
   rcases List.mem_append.1 hm with e|e
   ·exact absurd hm0 (htk m e)
   ·split at e
    ·rw[List.mem_singleton.1 e,hlw]
     exact⟨rfl,rfl,rfl⟩
    ·simp at e
  ·unfold crowd
   rw[htw,hwy]
   have:C.way.length=(s.way.take k++s.way.drop (k+1)).length+t.length:=by rw[hy,List.length_append]
   split
   ·rw[List.length_append,List.length_singleton];omega
   ·omega
  ·unfold load
   rw[htw,hwy]
   have e2:loadM h=2:=if_neg h0
   have e3:(C.way.map loadM).sum=((s.way.take k++s.way.drop (k+1)).map loadM).sum+(t.map loadM).sum:=by rw[hy,List.map_append,List.sum_append]
   split
   ·rw[List.map_append,List.sum_append]
    have:([{msg0 with src:=h.dst,dst:=h.src,kind:=0,no:=(linkOf C h.src.toNat h.dst.toNat).came}].map loadM).sum=1:=rfl
    omega
   ·omega
  ·rw[hlw,<-(hKl a b).1]
   exact hC.all a b
  ·refine⟨{msg0 with src:=h.dst,dst:=h.src,kind:=0,no:=(linkOf C h.src.toNat h.dst.toNat).came},?_,rfl,rfl,rfl,by rw[hlw]⟩
   rw[hwy,if_pos]
   ·exact List.mem_append_right _ (List.mem_singleton.2 rfl)
   ·have:C.way.length=(s.way.take k++s.way.drop (k+1)).length+t.length:=by rw[hy,List.length_append]
    unfold crowd at hc
    omega
  ·rw[hlw,hC.came a b (fun e=>q ⟨h0,e.1,e.2⟩),(hKl a b).2.1]
  ·rw[hlw]
   by_cases q:a=h.src.toNat/\b=h.dst.toNat
   ·obtain⟨rfl,rfl⟩:=q
    rw[<-(hKl _ _).2.1]
    exact hC.up
   ·rw[hC.came a b q,(hKl a b).2.1]
    exact Int.le_refl _
  ·have:=hC2 (by omega) (hnb e)
   rw[hlw]
   rw[(hKl _ _).2.1]at this
   omega
  ·rw[hlw,hC.known,(hKl a b).2.2]
   exact⟨Int.le_refl _,.inl rfl⟩
end Go.Proofs.YtfanaanofjhlkaaGreatDoor
