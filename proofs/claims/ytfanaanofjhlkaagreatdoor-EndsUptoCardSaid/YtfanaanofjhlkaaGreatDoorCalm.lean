import Derived.Test.YtfanaanofjhlkaaGreatDoorTotal2
namespace Go.Proofs.YtfanaanofjhlkaaGreatDoor
open Go Go.RowKit
def asks(k:Nat)(m:MsgS):Nat:=if(m.kind=1/\m.src=k)\/((m.kind=2\/m.kind=3)/\m.dst=k)then 1 else 0
structure Pol(e:Nat->Nat)(s:RunS):Prop where
 one:∀(i:Nat) (x:WorkerS),s.W[i]?= some x->total (asks i) s+e i<=(if x.asked=true then 1 else 0)
 free:∀(i:Nat) (x:WorkerS),s.W[i]?= some x->x.asked=true->x.tasks=[]
 room:∀(i:Nat) (x:WorkerS),s.W[i]?= some x->(x.tasks.length:Int)<=s.room
theorem sendS_get(s:RunS)(m:MsgS){i:Nat}{x:WorkerS}(h:(sendS s m).W[i]?= some x):∃y,s.W[i]?= some y/\x.asked=y.asked/\x.tasks=y.tasks:=by
 have key:∀y:WorkerS,(s.W.set m.src.toNat {(s.W[m.src.toNat]?.getD worker0)with sent:=(s.W[m.src.toNat]?.getD worker0).sent+1})[i]?= some y->∃z,s.W[i]?= some z/\y.asked=z.asked/\y.tasks=z.tasks:=fun y hy=>by
  rw[List.getElem?_set]at hy
  by_cases hi:m.src.toNat=i
  ·subst hi
   rw[if_pos rfl]at hy
   split at hy
   ·rename_i hl
    have hx:s.W[m.src.toNat]?= some (s.W[m.src.toNat]'hl):=List.getElem?_eq_getElem _
    rw[hx,Option.getD_some]at hy
    have:=Option.some.inj hy
    subst this
    exact⟨_,hx,rfl,rfl⟩
   ·cases hy
  ·rw[if_neg hi]at hy
   exact⟨y,hy,rfl,rfl⟩
 unfold sendS wayS at h
 dsimp only at h
 split at h<;>split at h
 ·exact key x h
 ·exact key x h
 ·exact⟨x,h,rfl,rfl⟩
 ·exact⟨x,h,rfl,rfl⟩
theorem sendS_room(s:RunS)(m:MsgS):(sendS s m).room=s.room:=by
 unfold sendS wayS
 dsimp only
 split<;>split<;>rfl
theorem Pol.send{e e':Nat->Nat}{N:Nat}{s:RunS}(hp:Pol e s)(h:Fine N s){m:MsgS}(hi:m.src.toNat < s.W.length)(hj:m.dst.toNat < s.W.length)(he:∀k,e' k+asks k m<=e k):Pol e' (sendS s m):=by
 refine⟨fun i x hx=> ?_,fun i x hx ha=> ?_,fun i x hx=> ?_⟩
 all_goals obtain⟨y,hy,h1,h2⟩:=sendS_get s m hx
 ·obtain⟨n,ht⟩:=total_send (asks i) h m hi hj
  have:asks i {m with no:=n}=asks i m:=rfl
  rw[this]at ht
  have h3:=hp.one i y hy
  have h4:=he i
  rw[h1,ht]
  omega
 ·rw[h2];rw[h1]at ha;exact hp.free i y hy ha
 ·rw[h2,sendS_room];exact hp.room i y hy
theorem Pol.reworker{e e':Nat->Nat}{s:RunS}(hp:Pol e s){i:Nat}{x:WorkerS}(h1:total (asks i) s+e' i<=(if x.asked=true then 1 else 0))(h2:x.asked=true->x.tasks=[])(h3:(x.tasks.length:Int)<=s.room)(he:∀k,k≠i->e' k<=e k):Pol e' {s with W:=s.W.set i x}:=by
 have key:∀k y,(s.W.set i x)[k]?= some y->(k=i/\y=x)\/(k≠i/\s.W[k]?= some y):=fun k y hy=>by
  rw[List.getElem?_set]at hy
  by_cases hk:i=k
  ·subst hk
   rw[if_pos rfl]at hy
   split at hy
   ·exact .inl ⟨rfl,(Option.some.inj hy).symm⟩
   ·cases hy
  ·rw[if_neg hk]at hy
   exact .inr ⟨fun e=>hk e.symm,hy⟩
 have ht:∀k,total (asks k) {s with W:=s.W.set i x}=total (asks k) s:=fun k=>total_congr _ rfl
 refine⟨fun k y hy=> ?_,fun k y hy ha=> ?_,fun k y hy=> ?_⟩
 all_goals rcases key k y hy with⟨rfl,rfl⟩|⟨hk,hy'⟩
 ·rw[ht];exact h1
 ·rw[ht]
  have:=hp.one k y hy'
  have:=he k hk
  omega
 ·exact h2 ha
 ·exact hp.free k y hy' ha
 ·exact h3
 ·exact hp.room k y hy'
theorem Pol.rest{e:Nat->Nat}{s s':RunS}(hp:Pol e s)(h1:s'.W=s.W)(h2:s'.links=s.links)(h3:s'.room=s.room):Pol e s':=
 ⟨fun i x hx=>by rw[h1]at hx;rw[total_congr (asks i) h2];exact hp.one i x hx,fun i x hx ha=>by rw[h1]at hx;exact hp.free i x hx ha,fun i x hx=>by rw[h1]at hx;rw[h3];exact hp.room i x hx⟩
theorem Pol.less{e e':Nat->Nat}{s:RunS}(hp:Pol e s)(he:∀k,e' k<=e k):Pol e' s:=
 ⟨fun i x hx=>by have:=hp.one i x hx;have:=he i;omega,hp.free,hp.room⟩
theorem Pol.came{N:Nat}{s:RunS}{i j n:Nat}{m:MsgS}(hp:Pol (fun k=>asks k m) s)(h:Fine N s)(hi:i < s.W.length)(hj:j < s.W.length)(hm:MsgOK s.ks (s.answers≠ []) N i j n m):Pol (fun _=>0) (cameS s m):=by
 have hs0:=hm.src
 have hd0:=hm.dst
 have hx:s.W[m.dst.toNat]?= some (s.W[m.dst.toNat]'(by omega)):=List.getElem?_eq_getElem _
 unfold cameS
 dsimp only
 rw[hx,Option.getD_some]
 generalize s.W[m.dst.toNat]'_=x at hx ⊢
 have hxo:=h.works x (List.mem_of_getElem? hx)
 have p1:=hp.one _ x hx
 have p2:=hp.free _ x hx
 have p3:=hp.room _ x hx
 have ed:((m.dst.toNat:Nat):Int)=m.dst:=by omega
 split
 ·rename_i h1
  split
  ·refine hp.send h (by show m.dst.toNat < _;omega) (by show m.src.toNat < _;omega) (fun k=> ?_)
   show 0+asks k _<=asks k m
   simp only[asks,h1]
   by_cases hk:m.src=(k:Int)<;>simp[hk]
  ·rename_i t r ht
   have hna:x.asked≠true:=fun e=>by have:=p2 e;rw[ht]at this;cases this
   have hwk:WorkerOK s.ks N {x with tasks:=r}:=⟨by have:=hxo.few;rw[ht]at this;simp at this;dsimp only;omega,fun c hc=>hxo.good c (by rw[ht];exact List.mem_cons_of_mem _ hc),hxo.sent,hxo.came,hxo.tok⟩
   have hp1:Pol (fun k=>asks k m) {s with W:=s.W.set m.dst.toNat {x with tasks:=r}}:=hp.reworker p1 (fun e=>absurd e hna) (by rw[ht]at p3;simp at p3;dsimp only;omega) (fun _ _=>Nat.le_refl _)
   refine hp1.send (h.reworker m.dst.toNat hwk (Nat.le_refl _)) (by show m.dst.toNat < _;simp;omega) (by show m.src.toNat < _;simp;omega) (fun k=> ?_)
   show 0+asks k _<=asks k m
   simp only[asks,h1]
   by_cases hk:m.src=(k:Int)<;>simp[hk]
 ·split
  ·rename_i h2
   have ha:asks m.dst.toNat m=1:=by simp[asks,h2,ed]
   rw[ha]at p1
   have hasked:x.asked=true:=by
    by_cases e:x.asked=true
    ·exact e
    ·rw[if_neg e]at p1;omega
   rw[if_pos hasked]at p1
   have hr:=h.rmin
   refine hp.reworker ?_ (fun e=>by simp at e) ?_ (fun _ _=>Nat.zero_le _)
   ·simp;omega
   ·rw[p2 hasked];simp;omega
  ·rename_i h2
   split
   ·rename_i h3
    have ha:asks m.dst.toNat m=1:=by simp[asks,h3,ed]
    rw[ha]at p1
    have:(if x.asked=true then 1 else 0)<=1:=by split<;>omega
    refine hp.reworker ?_ (fun e=>by simp at e) p3 (fun _ _=>Nat.zero_le _)
    simp;omega
   ·rename_i h1 h3
    have hp0:Pol (fun _=>0) s:=hp.less (fun _=>Nat.zero_le _)
    have q1:=hp0.one _ x hx
    split
    ·exact(hp0.reworker (x:={x with came:=x.came+1,black:=true}) q1 p2 p3 (fun _ _=>Nat.le_refl _)).rest rfl rfl rfl
    ·split
     ·exact(hp0.reworker (x:={x with has:=true,token:=m}) q1 p2 p3 (fun _ _=>Nat.le_refl _)).rest rfl rfl rfl
     ·split
      ·refine hp0.send h (by show m.dst.toNat < _;omega) (by show(0:Int).toNat < _;simp;omega) (fun k=> ?_)
       simp[asks]
      ·split
       ·unfold notedS
        split
        ·exact hp0
        ·exact hp0.rest rfl rfl rfl
       ·exact hp0
theorem Pol.relink{e e':Nat->Nat}{N:Nat}{s:RunS}(hp:Pol e s)(h:Fine N s){i j:Nat}(hi:i < s.W.length)(hj:j < s.W.length){l:LinkS}(hl:∀k,linkSum (asks k) l+e' k<=linkSum (asks k) (linkOf s i j)+e k):Pol e' (setLink s i j l):=by
 refine⟨fun k x hx=> ?_,hp.free,hp.room⟩
 have h1:=total_set (asks k) l h.llen h.lrow hi hj
 have h2:=hp.one k x hx
 have h3:=hl k
 omega
theorem Pol.step{N:Nat}{s:RunS}(hp:Pol (fun _=>0) s)(h:Fine N s){i j:Nat}(hi:i < s.W.length)(hj:j < s.W.length)(hb:nextB (linkOf s i j)=true):Pol (fun _=>0) (stepS s i j):=by
 have hl:=h.links i j hi hj
 have hmem:(linkOf s i j).came+1∈(linkOf s i j).kept:=by
  unfold nextB at hb
  obtain⟨y,hy,hye⟩:=List.any_eq_true.1 hb
  have:y=(linkOf s i j).came+1:=by simpa using hye
  rw[<-this];exact hy
 have hk:=hl.kept _ hmem
 have hc:=hl.came
 have hs1:Fine N (setLink s i j {linkOf s i j with came:=(linkOf s i j).came+1}):=h.relink hi hj (L:=[]) (by simp) ⟨hl.msgs,hl.all,hl.known,by dsimp only;omega,fun n hn=>by have:=hl.kept n hn;dsimp only;omega,hl.klen⟩ (Nat.le_refl _)
 have hg:(linkOf s i j).all[(linkOf s i j).came.toNat]?= some ((linkOf s i j).all[(linkOf s i j).came.toNat]'(by omega)):=List.getElem?_eq_getElem _
 have hm:=hl.msgs _ _ hg
 unfold stepS
 rw[hg,Option.getD_some]
 refine Pol.came ?_ hs1 hi hj hm
 refine⟨fun k x hx=> ?_,hp.free,hp.room⟩
 have h1:=total_step (asks k) h hi hj hg
 have h2:=hp.one k x hx
 omega
theorem Pol.come{i j:Nat}:∀(f d N:Nat) (s:RunS),Pol (fun _=>0) s->Fine N s->i < s.W.length->j < s.W.length->N+d<=90000000->(∀n∈(linkOf s i j).kept,n<=(linkOf s i j).came+d)->Pol (fun _=>0) (comeS f s i j):=by
 intro f
 induction f with
 |zero=>intro d N s hp _ _ _ _ _;exact hp
 |succ f ih=>
  intro d N s hp h hi hj hN hd
  unfold comeS
  split
  ·rename_i hb
   obtain⟨h1,h2,h3,h4⟩:=h.step (by omega) hi hj hb
   have hd1:=hd _ h4
   exact ih (d - 1) (N+1) _ (hp.step h hi hj hb) h1 (by omega) (by omega) (by omega) (fun n hn=>by rw[h2]at hn ⊢;have:=hd n hn;dsimp only;omega)
  ·exact hp
theorem wayS_room(s:RunS)(m:MsgS):(wayS s m).room=s.room:=by
 unfold wayS
 split<;>rfl
theorem Pol.way{e:Nat->Nat}{s:RunS}(hp:Pol e s)(m:MsgS):Pol e (wayS s m):=hp.rest (wayS_rest s m).2.1 (wayS_rest s m).1 (wayS_room s m)
theorem Pol.deliver{N:Nat}{s:RunS}(hp:Pol (fun _=>0) s)(h:Fine N s)(hN:N+5<=90000000)(k:Int):Pol (fun _=>0) (deliverS s k).1:=by
 unfold deliverS
 split
 ·exact hp
 ·rename_i hme
  obtain⟨h0,h1⟩:=messageE_range hme
  have hg:s.way[k.toNat]?= some (s.way[k.toNat]'(by omega)):=List.getElem?_eq_getElem _
  have hw:=h.ways _ (List.mem_of_getElem? hg)
  rw[hg]
  dsimp only[Option.getD_some]
  generalize s.way[k.toNat]=m at hw ⊢
  have hu:=h.unway k.toNat
  have hpu:Pol (fun _=>0) {s with way:=s.way.take k.toNat++s.way.drop (k.toNat+1)}:=hp.rest rfl rfl rfl
  obtain⟨hsl,hse⟩:=h.nat hw.src.1 hw.src.2
  obtain⟨hdl,hde⟩:=h.nat hw.dst.1 hw.dst.2
  split
  ·split
   ·exact hpu.relink hu hdl hsl (l:={linkOf {s with way:=s.way.take k.toNat++s.way.drop (k.toNat+1)} m.dst.toNat m.src.toNat with known:=m.no}) (fun _=>Nat.le_refl _)
   ·exact hpu
  ·rename_i hk0
   obtain⟨n,hn,hne⟩:=hw.sent hk0
   have hnl:=(List.getElem?_eq_some_iff.1 hne).1
   have hkp:=hu.keep hsl hdl (n:=m.no) (by rw[hn];show(n:Int)+1<=((linkOf s m.src.toNat m.dst.toNat).all.length:Int);omega)
   have hpk:Pol (fun _=>0) (setLink {s with way:=s.way.take k.toNat++s.way.drop (k.toNat+1)} m.src.toNat m.dst.toNat (keepS (linkOf {s with way:=s.way.take k.toNat++s.way.drop (k.toNat+1)} m.src.toNat m.dst.toNat) m.no)):=hpu.relink hu hsl hdl (fun a=>by
    have:linkSum (asks a) (keepS (linkOf {s with way:=s.way.take k.toNat++s.way.drop (k.toNat+1)} m.src.toNat m.dst.toNat) m.no)=linkSum (asks a) (linkOf {s with way:=s.way.take k.toNat++s.way.drop (k.toNat+1)} m.src.toNat m.dst.toNat):=by
     unfold keepS
     split<;>rfl
    rw[this]
    exact Nat.le_refl _)
   exact(Pol.come _ 4 _ _ hpk hkp hsl hdl (by omega) (fun a ha=>((hkp.links _ _ hsl hdl).kept a ha).2.2)).way _
theorem Pol.steal{N:Nat}{s:RunS}(hp:Pol (fun _=>0) s)(h:Fine N s)(i v:Int):Pol (fun _=>0) (stealS s i v).1:=by
 unfold stealS
 split
 ·exact hp
 ·rename_i hi
  split
  ·exact hp
  ·rename_i hv
   split
   ·exact hp
   ·obtain⟨hi0,hi1⟩:=workerE_range hi
    obtain⟨hv0,hv1⟩:=workerE_range hv
    obtain⟨hil,hie⟩:=h.nat hi0 hi1
    obtain⟨hvl,hve⟩:=h.nat hv0 hv1
    split
    ·exact hp
    ·rename_i x hx
     have hxo:=h.works x (List.mem_of_getElem? hx)
     split
     ·exact hp
     ·rename_i hc
      have hc1:x.tasks=[]:=Classical.byContradiction fun e=>hc (.inl e)
      have hc2:¬x.asked=true:=fun e=>hc (.inr e)
      have p1:=hp.one _ x hx
      rw[if_neg hc2]at p1
      have hr:=h.rmin
      have hp1:Pol (fun k=>if k=i.toNat then 1 else 0) {s with W:=s.W.set i.toNat {x with asked:=true}}:=by
       refine Pol.reworker (e:=fun _=>0) hp ?_ (fun _=>hc1) (by rw[hc1];simp;omega) (fun k hk=>by simp[hk])
       simp;omega
      refine hp1.send (h.reworker i.toNat (x:={x with asked:=true}) ⟨hxo.few,hxo.good,hxo.sent,hxo.came,hxo.tok⟩ (Nat.le_refl _)) (by simpa using hil) (by simpa using hvl) (fun k=> ?_)
      by_cases hk:k=i.toNat
      ·rw[if_pos hk]
       unfold asks
       split<;>omega
      ·have:¬i=(k:Int):=by omega
       simp[asks,this,hk]
theorem Pol.work{N:Nat}{s:RunS}(hp:Pol (fun _=>0) s)(h:Fine N s)(i:Int):Pol (fun _=>0) (workS s i).1:=by
 unfold workS
 split
 ·exact hp
 ·rename_i hw
  obtain⟨h0,hlt⟩:=workerE_range hw
  obtain⟨hil,hie⟩:=h.nat h0 hlt
  split
  ·exact hp
  ·rename_i x hx
   have hxo:=h.works x (List.mem_of_getElem? hx)
   split
   ·exact hp
   ·rename_i t ht
    have htm:t∈x.tasks:=List.mem_of_getLast? ht
    have hna:x.asked≠true:=fun e=>by rw[hp.free _ x hx e]at htm;simp at htm
    split
    ·exact hp.rest rfl rfl rfl
    ·rename_i hroom
     have hne:x.tasks.length≠0:=fun e=>by rw[List.length_eq_zero_iff]at e;rw[e]at htm;simp at htm
     have hp1:Pol (fun _=>0) {s with W:=s.W.set i.toNat {x with tasks:=x.tasks.dropLast++children s.ks t}}:=hp.reworker (hp.one _ x hx) (fun e=>absurd e hna) (by simp;omega) (fun _ _=>Nat.le_refl _)
     dsimp only
     split
     ·exact hp1.rest rfl rfl rfl
     ·have hwk:WorkerOK s.ks N {x with tasks:=x.tasks.dropLast++children s.ks t}:=by
       refine⟨?_,fun c hc=> ?_,hxo.sent,hxo.came,hxo.tok⟩
       ·have:=h.rmax
        simp
        omega
       ·rcases List.mem_append.1 hc with e|e
        ·exact hxo.good c ((List.dropLast_sublist _).subset e)
        ·exact childrenFrom_good h.prog (hxo.good t htm) c e
      have h2:=h.two
      have hlen:=h.len
      refine hp1.send (h.reworker i.toNat hwk (Nat.le_refl _)) (by simpa using hil) (by simp;omega) (fun k=> ?_)
      simp[asks]
theorem Pol.drop{s:RunS}(hp:Pol (fun _=>0) s)(k:Int):Pol (fun _=>0) (dropS s k).1:=by
 unfold dropS
 split
 ·exact hp
 ·exact hp.rest rfl rfl rfl
theorem Pol.twice{s:RunS}(hp:Pol (fun _=>0) s)(k:Int):Pol (fun _=>0) (twiceS s k).1:=by
 unfold twiceS
 split
 ·exact hp
 ·exact hp.way _
theorem Pol.tick{s:RunS}(hp:Pol (fun _=>0) s)(i:Int):Pol (fun _=>0) (tickS s i).1:=by
 unfold tickS
 split
 ·exact hp
 ·have key:∀(L:List LinkS) (s:RunS),Pol (fun _=>0) s->Pol (fun _=>0) (L.foldl againS s):=by
   intro L
   induction L with
   |nil=>intro s h;exact h
   |cons l r ih=>
    intro s h
    rw[List.foldl_cons]
    refine ih _ ?_
    unfold againS
    split
    ·exact h.way _
    ·exact h
  exact key _ _ hp
theorem Pol.pass{N:Nat}{s:RunS}(hp:Pol (fun _=>0) s)(h:Fine N s)(i:Int):Pol (fun _=>0) (passS s i).1:=by
 unfold passS
 split
 ·exact hp
 ·rename_i hw
  obtain⟨h0,hlt⟩:=workerE_range hw
  obtain⟨hil,hie⟩:=h.nat h0 hlt
  split
  ·exact hp
  ·rename_i x hx
   split
   ·exact hp
   ·rename_i hc
    have hi0:i≠0:=fun e=>hc (.inr (.inl e))
    have hps:Pol (fun _=>0) (sendS s {msg0 with src:=i,dst:=i - 1,kind:=5,count:=x.token.count+x.sent - x.came,black:=x.token.black||x.black}):=hp.send h hil (by show(i - 1).toNat < _;omega) (fun k=>by simp[asks])
    have hW:=sendS_W s {msg0 with src:=i,dst:=i - 1,kind:=5,count:=x.token.count+x.sent - x.came,black:=x.token.black||x.black} (by dsimp only;decide)
    have hx':(sendS s {msg0 with src:=i,dst:=i - 1,kind:=5,count:=x.token.count+x.sent - x.came,black:=x.token.black||x.black}).W[i.toNat]?= some x:=by rw[hW];exact hx
    exact hps.reworker (x:={x with black:=false,has:=false}) (hps.one _ x hx') (hps.free _ x hx') (hps.room _ x hx') (fun _ _=>Nat.le_refl _)
theorem Pol.waves{n:Int}:∀(L:List Nat) (N:Nat) (s:RunS),Pol (fun _=>0) s->Fine N s->s.answers≠ []->(∀k∈L,1<=k/\k < s.W.length)->Pol (fun _=>0) (L.foldl (waveS n) s):=by
 intro L
 induction L with
 |nil=>intro N s hp h _ _;exact hp
 |cons k r ih=>
  intro N s hp h ha hL
  have hk:=hL k (List.mem_cons_self ..)
  obtain⟨e1,e2,-⟩:=sendS_rest s {msg0 with src:=0,dst:=k,kind:=6,round:=n}
  have hs:Fine (N+1) (waveS n s k):=h.waves [k] _ _ ha (fun a b=>by rw[List.mem_singleton.1 b];exact hk)
  have hps:Pol (fun _=>0) (waveS n s k):=hp.send h (by show(0:Int).toNat < _;simp;omega) (by show(k:Int).toNat < _;simp;omega) (fun k=>by simp[asks])
  rw[List.foldl_cons]
  exact ih (N+1) (waveS n s k) hps hs (by show(sendS _ _).answers≠ [];rw[e1];exact ha) (fun a b=>by show 1<=a/\a < (sendS _ _).W.length;rw[e2];exact hL a (List.mem_cons_of_mem _ b))
theorem Pol.check{N:Nat}{s:RunS}(hp:Pol (fun _=>0) s)(h:Fine N s)(hN:N<=1000000000):Pol (fun _=>0) (checkS s).1:=by
 have h2:=h.two
 have hl:=h.len
 unfold checkS
 split
 ·exact hp
 ·split
  ·unfold ringS
   split
   ·exact hp
   ·rename_i x hx
    have hxo:=h.works x (List.mem_of_getElem? hx)
    split
    ·exact hp
    ·split
     ·exact hp.rest rfl rfl rfl
     ·have hp1:Pol (fun _=>0) {s with W:=s.W.set 0 {x with black:=false,has:=false}}:=hp.reworker (hp.one _ x hx) (hp.free _ x hx) (hp.room _ x hx) (fun _ _=>Nat.le_refl _)
      exact hp1.send (h.reworker 0 (x:={x with black:=false,has:=false}) ⟨hxo.few,hxo.good,hxo.sent,hxo.came,hxo.tok⟩ (Nat.le_refl _)) (by show(0:Int).toNat < _;simp;omega) (by show(s.workers - 1).toNat < _;simp;omega) (fun k=>by simp[asks])
  ·unfold wavesS
   split
   ·exact hp
   ·rename_i x hx
    have hxo:=h.works x (List.mem_of_getElem? hx)
    split
    ·exact hp
    ·split
     ·exact hp.rest rfl rfl rfl
     ·have h3:Fine (N+1) {s with answers:=s.answers++ [⟨0,0,0,true⟩]}:=h.reans (by have:=h.alen;simp;omega) (by simp) (fun a ha=>by
       rcases List.mem_append.1 ha with e|e
       ·exact(h.ans a e).more (Nat.le_succ N)
       ·rw[List.mem_singleton.1 e];exact⟨by dsimp only;omega,by dsimp only;omega,by dsimp only;omega⟩) (Nat.le_succ N)
      have hsn:=hxo.sent
      have hcm:=hxo.came
      have h4:=h3.noted (a:=x.sent) (b:=x.came) true (by omega) (by omega)
      have hne:(notedS {s with answers:=s.answers++ [⟨0,0,0,true⟩]} x.sent x.came true).answers≠ []:=by
       unfold notedS
       split<;>simp
      have hwl:(notedS {s with answers:=s.answers++ [⟨0,0,0,true⟩]} x.sent x.came true).W.length=s.W.length:=by
       unfold notedS
       split<;>rfl
      have hpn:Pol (fun _=>0) (notedS {s with answers:=s.answers++ [⟨0,0,0,true⟩]} x.sent x.came true):=by
       unfold notedS
       split<;>exact hp.rest rfl rfl rfl
      refine Pol.waves (List.range' 1 (s.W.length - 1)) (N+1+1) _ hpn h4 hne (fun k hk=> ?_)
      rw[hwl]
      have:=List.mem_range'_1.1 hk
      omega
theorem Pol.new{workers room mode kind arg:Int}{ks:List KindS}(hc:cfgB workers room mode=true):Pol (fun _=>0) (newS workers room mode ks kind arg):=by
 simp[cfgB]at hc
 have e2:∀(k n:Nat),((List.replicate n link0).map (linkSum (asks k))).sum=0:=fun k n=>by
  induction n with
  |zero=>rfl
  |succ n ih=>rw[List.replicate_succ,List.map_cons,List.sum_cons,ih];rfl
 have e3:∀i n k:Nat,((List.replicate n (List.replicate k link0)).map fun ls=>(ls.map (linkSum (asks i))).sum).sum=0:=fun i n k=>by
  induction n with
  |zero=>rfl
  |succ n ih=>rw[List.replicate_succ,List.map_cons,List.sum_cons,ih,e2]
 have hW:∀(i:Nat) (x:WorkerS),(newS workers room mode ks kind arg).W[i]?= some x->x={worker0 with tasks:=[⟨⟨#[]⟩,kind,arg⟩],has:=true}\/x=worker0:=fun i x hx=>by
  rcases List.mem_cons.1 (List.mem_of_getElem? hx)with h|h
  ·exact .inl h
  ·exact .inr (List.eq_of_mem_replicate h)
 refine⟨fun i x _=> ?_,fun i x hx ha=> ?_,fun i x hx=> ?_⟩
 ·have:total (asks i) (newS workers room mode ks kind arg)=0:=e3 i _ _
  rw[this]
  exact Nat.zero_le _
 ·rcases hW i x hx with rfl|rfl
  ·simp[worker0]at ha
  ·rfl
 ·rcases hW i x hx with rfl|rfl
  ·show(1:Int)<=room;omega
  ·show(0:Int)<=room;omega
structure Steady(N:Nat)(s:RunS):Prop where
 fine:Fine N s
 pol:Pol (fun _=>0) s
theorem Steady.fits{N:Nat}{s:RunS}(h:Steady N s):Fits s:=
 ⟨h.fine.len,h.fine.two,h.fine.five,h.fine.rmin,h.fine.rmax,fun x hx=>by
  obtain⟨i,hi,rfl⟩:=List.mem_iff_getElem.1 hx
  exact h.pol.room i _ (List.getElem?_eq_getElem hi),h.fine.prog,fun x hx=>(h.fine.works x hx).good⟩
theorem Steady.new{workers room mode kind arg:Int}{ks:List KindS}(hc:cfgB workers room mode=true)(hp:progB ks kind arg=true):Steady 0 (newS workers room mode ks kind arg):=⟨Fine.new hc hp,Pol.new hc⟩
theorem Steady.more{N N':Nat}{s:RunS}(h:Steady N s)(hN:N<=N'):Steady N' s:=⟨h.fine.more hN,h.pol⟩
theorem Steady.work{N:Nat}{s:RunS}(h:Steady N s)(i:Int):Steady (N+1) (workS s i).1:=⟨h.fine.work i,h.pol.work h.fine i⟩
theorem Steady.steal{N:Nat}{s:RunS}(h:Steady N s)(i v:Int):Steady (N+1) (stealS s i v).1:=⟨h.fine.steal i v,h.pol.steal h.fine i v⟩
theorem Steady.drop{N:Nat}{s:RunS}(h:Steady N s)(k:Int):Steady N (dropS s k).1:=⟨h.fine.drop k,h.pol.drop k⟩
theorem Steady.twice{N:Nat}{s:RunS}(h:Steady N s)(k:Int):Steady N (twiceS s k).1:=⟨h.fine.twice k,h.pol.twice k⟩
theorem Steady.tick{N:Nat}{s:RunS}(h:Steady N s)(i:Int):Steady N (tickS s i).1:=⟨h.fine.tick i,h.pol.tick i⟩
theorem Steady.deliver{N:Nat}{s:RunS}(h:Steady N s)(hN:N+5<=90000000)(k:Int):Steady (N+5) (deliverS s k).1:=⟨h.fine.deliver hN k,h.pol.deliver h.fine hN k⟩
theorem Steady.pass{N:Nat}{s:RunS}(h:Steady N s)(hN:N<=1000000000)(i:Int):Steady (N+1) (passS s i).1:=⟨h.fine.pass hN i,h.pol.pass h.fine i⟩
theorem Steady.check{N:Nat}{s:RunS}(h:Steady N s)(hN:N<=1000000000):Steady (N+6) (checkS s).1:=⟨h.fine.check hN,h.pol.check h.fine hN⟩
theorem again_links:∀(L:List LinkS) (s:RunS),(L.foldl againS s).links=s.links/\(L.foldl againS s).done=s.done:=by
 intro L
 induction L with
 |nil=>exact fun s=>⟨rfl,rfl⟩
 |cons l L ih=>
  intro s
  obtain⟨y,hy,-⟩:=againS_eq s l
  rw[List.foldl_cons,hy]
  exact ih _
theorem sendS_done(s:RunS)(m:MsgS):(sendS s m).done=s.done:=by
 unfold sendS wayS
 dsimp only
 split<;>split<;>rfl
theorem wayS_done(s:RunS)(m:MsgS):(wayS s m).done=s.done:=by
 unfold wayS
 split<;>rfl
theorem cameS_done(s:RunS)(m:MsgS):(cameS s m).done=s.done:=by
 unfold cameS notedS
 dsimp only
 repeat' split
 all_goals first|rfl|exact sendS_done _ _
theorem comeS_done(i j:Nat):∀(f:Nat) (s:RunS),(comeS f s i j).done=s.done:=by
 intro f
 induction f with
 |zero=>exact fun s=>rfl
 |succ f ih=>
  intro s
  unfold comeS
  split
  ·rw[ih];exact cameS_done _ _
  ·rfl
theorem workS_done(s:RunS)(i:Int):(workS s i).1.done=s.done:=by
 unfold workS
 dsimp only
 repeat' split
 all_goals first|rfl|exact sendS_done _ _
theorem stealS_done(s:RunS)(i v:Int):(stealS s i v).1.done=s.done:=by
 unfold stealS
 repeat' split
 all_goals first|rfl|exact sendS_done _ _
theorem tickS_done(s:RunS)(i:Int):(tickS s i).1.done=s.done:=by
 unfold tickS
 split
 ·rfl
 ·exact(again_links _ _).2
theorem deliverS_done(s:RunS)(k:Int):(deliverS s k).1.done=s.done:=by
 unfold deliverS
 split
 ·rfl
 ·dsimp only
  split
  ·split<;>rfl
  ·rw[wayS_done,comeS_done];rfl
theorem passS_done(s:RunS)(i:Int):(passS s i).1.done=s.done:=by
 unfold passS
 split
 ·rfl
 ·split
  ·rfl
  ·split
   ·rfl
   ·exact sendS_done _ _
structure CalmM(d:Int)(m:MsgS):Prop where
 kind:m.kind<=7
 size:m.v.1.size<=12
 wf:(Lit.int .i64 m.v.2).wf=true
 ne:m.src≠m.dst
 tok:m.kind=5->d=1
 wave:m.kind=6->m.src=0
theorem calm_of{d:Int}{m:MsgS}(h:m.kind<=7)(hv:m.v=(⟨#[]⟩,0))(hn:m.src≠m.dst)(h5:m.kind=5->d=1)(h6:m.kind=6->m.src=0):CalmM d m:=⟨h,by rw[hv];decide,by rw[hv];decide,hn,h5,h6⟩
theorem CalmM.no{d:Int}{m:MsgS}(h:CalmM d m)(n:Int):CalmM d {m with no:=n}:=⟨h.kind,h.size,h.wf,h.ne,h.tok,h.wave⟩
def CalmL(d:Int)(L:List (List LinkS)):Prop:=∀ls∈L,∀l∈ls,∀m∈l.all,CalmM d m
structure Calm(s:RunS):Prop where
 links:CalmL s.mode s.links
 way:∀m∈s.way,m.src≠m.dst
theorem CalmL.link{d:Int}{L:List (List LinkS)}(h:CalmL d L)(a b:Nat):∀m∈((L[a]?.getD [])[b]?.getD link0).all,CalmM d m:=by
 cases ha:L[a]? with
 |none=>intro m hm;simp[link0]at hm
 |some ls=>
  cases hb:ls[b]? with
  |none=>intro m hm;simp[hb,link0]at hm
  |some l=>intro m hm;simp[hb]at hm;exact h ls (List.mem_of_getElem? ha) l (List.mem_of_getElem? hb) m hm
theorem CalmL.set{d:Int}{L:List (List LinkS)}(h:CalmL d L)(a b:Nat){l':LinkS}(hl:∀m∈l'.all,CalmM d m):CalmL d (L.set a ((L[a]?.getD []).set b l')):=by
 intro ls hls l hlm
 rcases List.mem_or_eq_of_mem_set hls with h'|rfl
 ·exact h ls h' l hlm
 ·rcases List.mem_or_eq_of_mem_set hlm with h'|rfl
  ·cases ha:L[a]? with
   |none=>rw[ha]at h';simp at h'
   |some row=>rw[ha]at h';exact h row (List.mem_of_getElem? ha) l h'
  ·exact hl
theorem sendS_links(s:RunS)(m:MsgS):(sendS s m).links=s.links.set m.src.toNat ((s.links[m.src.toNat]?.getD []).set m.dst.toNat {linkOf s m.src.toNat m.dst.toNat with all:=(linkOf s m.src.toNat m.dst.toNat).all++ [{m with no:=(linkOf s m.src.toNat m.dst.toNat).all.length+1}]}):=by
 unfold sendS wayS
 dsimp only
 split<;>split<;>rfl
theorem wayS_mem{s:RunS}{m m':MsgS}(h:m'∈(wayS s m).way):m'∈s.way\/m'=m:=by
 unfold wayS at h
 split at h
 ·rcases List.mem_append.1 h with h|h
  ·exact .inl h
  ·exact .inr (List.mem_singleton.1 h)
 ·exact .inl h
theorem sendS_mem{s:RunS}{m m':MsgS}(h:m'∈(sendS s m).way):m'∈s.way\/(m'.src=m.src/\m'.dst=m.dst):=by
 unfold sendS at h
 rcases wayS_mem h with h|h
 ·refine .inl ?_
  dsimp only at h
  split at h<;>exact h
 ·exact .inr (by rw[h];exact⟨rfl,rfl⟩)
theorem sendS_themode(s:RunS)(m:MsgS):(sendS s m).mode=s.mode:=by
 unfold sendS wayS
 dsimp only
 split<;>split<;>rfl
theorem Calm.send{s:RunS}(h:Calm s){m:MsgS}(hk:CalmM s.mode m):Calm (sendS s m):=by
 refine⟨?_,fun m' hm'=> ?_⟩
 ·rw[sendS_links,sendS_themode]
  refine CalmL.set h.links _ _ (fun m' hm'=> ?_)
  rcases List.mem_append.1 hm' with e|e
  ·exact CalmL.link h.links _ _ m' e
  ·rw[List.mem_singleton.1 e];exact hk.no _
 ·rcases sendS_mem hm' with e|e
  ·exact h.way m' e
  ·rw[e.1,e.2];exact hk.ne
theorem Calm.rest{s s':RunS}(h:Calm s)(e:s'.links=s.links)(e2:s'.way=s.way)(e3:s'.mode=s.mode:=by rfl):Calm s':=⟨by rw[e,e3];exact h.links,by rw[e2];exact h.way⟩
theorem Calm.work{N:Nat}{s:RunS}(h:Calm s)(hf:Fine N s)(i:Int):Calm (workS s i).1:=by
 unfold workS
 split
 ·exact h
 ·split
  ·exact h
  ·rename_i x hx
   split
   ·exact h
   ·rename_i t ht
    dsimp only
    split
    ·exact h.rest rfl rfl
    ·split
     ·exact h.rest rfl rfl
     ·rename_i hi0
      show Calm (sendS _ _)
      refine Calm.send ?_ ?_
      ·exact h.rest rfl rfl
      have hg:=(hf.works x (List.mem_of_getElem? hx)).good t (List.mem_of_getLast? ht)
      exact⟨by simp,by show t.id.size<=12;have:=hg.1.2.2.2;have:=hg.1.2.2.1;omega,valueOf_wf hf.prog hg.1,hi0,fun e=>by simp at e,fun e=>by simp at e⟩
theorem Calm.steal{s:RunS}(h:Calm s)(i v:Int):Calm (stealS s i v).1:=by
 unfold stealS
 split
 ·exact h
 ·split
  ·exact h
  ·split
   ·exact h
   ·rename_i hne
    split
    ·exact h
    ·split
     ·exact h
     ·show Calm (sendS _ _)
      refine Calm.send ?_ ?_
      ·exact h.rest rfl rfl
      ·exact calm_of (by simp) rfl hne (fun e=>by simp at e) (fun e=>by simp at e)
theorem Calm.drop{s:RunS}(h:Calm s)(k:Int):Calm (dropS s k).1:=by
 unfold dropS
 split
 ·exact h
 ·refine⟨h.links,fun m hm=> ?_⟩
  rcases List.mem_append.1 hm with e|e
  ·exact h.way m (List.mem_of_mem_take e)
  ·exact h.way m (List.mem_of_mem_drop e)
theorem Calm.put{s:RunS}(h:Calm s){m:MsgS}(hm:m.src≠m.dst):Calm (wayS s m):=by
 refine⟨?_,fun m' hm'=> ?_⟩
 ·have:(wayS s m).mode=s.mode/\(wayS s m).links=s.links:=by unfold wayS;split<;>exact⟨rfl,rfl⟩
  rw[this.1,this.2]
  exact h.links
 ·rcases wayS_mem hm' with e|rfl
  ·exact h.way m' e
  ·exact hm
theorem Calm.twice{s:RunS}(h:Calm s)(k:Int):Calm (twiceS s k).1:=by
 unfold twiceS
 split
 ·exact h
 ·rename_i hw
  obtain⟨h0,h1⟩:=messageE_range hw
  obtain⟨m,hm⟩:∃m,s.way[k.toNat]?= some m:=⟨_,List.getElem?_eq_getElem (by omega)⟩
  show Calm (wayS s _)
  rw[hm]
  exact h.put (h.way m (List.mem_of_getElem? hm))
theorem Calm.again{s:RunS}(h:Calm s){l:LinkS}(h0:0<=l.known){d:Int}(hl:∀m∈l.all,CalmM d m):Calm (againS s l):=by
 unfold againS
 split
 ·rename_i hk
  obtain⟨m,hm⟩:∃m,l.all[l.known.toNat]?= some m:=⟨_,List.getElem?_eq_getElem (by omega)⟩
  rw[hm]
  exact h.put (hl m (List.mem_of_getElem? hm)).ne
 ·exact h
theorem Calm.againAll(d:Int):∀(L:List LinkS) (s:RunS),Calm s->(∀l∈L,0<=l.known/\∀m∈l.all,CalmM d m)->Calm (L.foldl againS s):=by
 intro L
 induction L with
 |nil=>exact fun s h _=>h
 |cons l L ih=>
  intro s h hl
  rw[List.foldl_cons]
  exact ih _ (h.again (hl l (List.mem_cons_self ..)).1 (hl l (List.mem_cons_self ..)).2) (fun l' h'=>hl l' (List.mem_cons_of_mem _ h'))
theorem Calm.tick{N:Nat}{s:RunS}(h:Calm s)(hf:Fine N s)(i:Int):Calm (tickS s i).1:=by
 unfold tickS
 split
 ·exact h
 ·refine Calm.againAll s.mode _ _ h ?_
  cases hx:s.links[i.toNat]? with
  |none=>intro l hl;simp at hl
  |some ls=>
   intro l hl
   have hl':l∈ls:=by simpa using hl
   have hls:=List.mem_of_getElem? hx
   obtain⟨a,b,ha,hb,e⟩:=linkOf_mem hf.llen hf.lrow hls hl'
   exact⟨by rw[e];exact(hf.links a b ha hb).known.1,h.links ls hls l hl'⟩
theorem Calm.came{s:RunS}(h:Calm s){m:MsgS}(hm':CalmM s.mode m):Calm (cameS s m):=by
 have hm:=hm'.kind
 have hne:m.dst≠m.src:=fun e=>hm'.ne e.symm
 unfold cameS
 dsimp only
 split
 ·split
  ·exact h.send (calm_of (by show(3:Int)<=7;omega) rfl hne (fun e=>by simp at e) (fun e=>by simp at e))
  ·show Calm (sendS _ _)
   refine Calm.send ?_ ?_
   ·exact h.rest rfl rfl
   ·exact calm_of (by simp) rfl hne (fun e=>by simp at e) (fun e=>by simp at e)
 ·split
  ·exact h.rest rfl rfl
  ·split
   ·exact h.rest rfl rfl
   ·split
    ·exact h.rest rfl rfl
    ·split
     ·exact h.rest rfl rfl
     ·split
      ·rename_i h6
       exact h.send (calm_of (by show(7:Int)<=7;omega) rfl (by have:=hm'.wave h6;show m.dst≠0;omega) (fun e=>by simp at e) (fun e=>by simp at e))
      ·split
       ·unfold notedS
        split
        ·exact h
        ·exact h.rest rfl rfl
       ·exact h
theorem Calm.relink{s:RunS}(h:Calm s)(i j:Nat){l:LinkS}(hl:∀m∈l.all,CalmM s.mode m):Calm (setLink s i j l):=⟨CalmL.set h.links i j hl,h.way⟩
theorem Calm.come(i j:Nat):∀(f:Nat) (s:RunS),Calm s->Calm (comeS f s i j):=by
 intro f
 induction f with
 |zero=>exact fun s h=>h
 |succ f ih=>
  intro s h
  unfold comeS
  split
  ·refine ih _ ?_
   unfold stepS
   have h1:Calm (setLink s i j {linkOf s i j with came:=(linkOf s i j).came+1}):=h.relink i j (l:={linkOf s i j with came:=(linkOf s i j).came+1}) (CalmL.link h.links i j)
   cases hx:(linkOf s i j).all[(linkOf s i j).came.toNat]? with
   |none=>exact h1
   |some m=>exact h1.came (CalmL.link h.links i j m (List.mem_of_getElem? hx))
  ·exact h
theorem keepS_all(l:LinkS)(n:Int):(keepS l n).all=l.all/\(keepS l n).known=l.known/\(keepS l n).came=l.came:=by
 unfold keepS
 split<;>exact⟨rfl,rfl,rfl⟩
theorem Calm.unway{s:RunS}(h:Calm s)(k:Nat):Calm {s with way:=s.way.take k++s.way.drop (k+1)}:=by
 refine⟨h.links,fun m hm=> ?_⟩
 rcases List.mem_append.1 hm with e|e
 ·exact h.way m (List.mem_of_mem_take e)
 ·exact h.way m (List.mem_of_mem_drop e)
theorem Calm.deliver{s:RunS}(h:Calm s)(k:Int):Calm (deliverS s k).1:=by
 unfold deliverS
 split
 ·exact h
 ·rename_i hw
  obtain⟨h0,h1⟩:=messageE_range hw
  obtain⟨m,hm⟩:∃m,s.way[k.toNat]?= some m:=⟨_,List.getElem?_eq_getElem (by omega)⟩
  have hne:=h.way m (List.mem_of_getElem? hm)
  have hu:=h.unway k.toNat
  dsimp only
  rw[hm,Option.getD_some]
  split
  ·split
   ·exact hu.relink _ _ (CalmL.link hu.links _ _)
   ·exact hu
  ·refine(Calm.come _ _ _ _ ?_).put (fun e=>hne e.symm)
   refine hu.relink _ _ ?_
   rw[(keepS_all _ _).1]
   exact CalmL.link hu.links _ _
theorem Calm.new(workers room mode kind arg:Int)(ks:List KindS):Calm (newS workers room mode ks kind arg):=by
 refine⟨fun ls h l hl m hm=> ?_,fun m hm=>by simp[newS]at hm⟩
 have h1:ls=List.replicate workers.toNat link0:=List.eq_of_mem_replicate h
 rw[h1]at hl
 rw[List.eq_of_mem_replicate hl]at hm
 simp[link0]at hm
theorem Calm.pass{s:RunS}(h:Calm s)(i:Int):Calm (passS s i).1:=by
 unfold passS
 split
 ·exact h
 ·split
  ·exact h
  ·split
   ·exact h
   ·rename_i hc
    have hm:s.mode=1:=by
     by_cases e:s.mode=1
     ·exact e
     ·exact absurd (.inl e) hc
    dsimp only
    rename_i x _
    have hs:Calm (sendS s {msg0 with src:=i,dst:=i - 1,kind:=5,count:=x.token.count+x.sent - x.came,black:=x.token.black||x.black}):=h.send (calm_of (by show(5:Int)<=7;omega) rfl (by show i≠i - 1;omega) (fun _=>hm) (fun e=>by simp at e))
    exact hs.rest rfl rfl
theorem Calm.waves{r:Int}:∀(L:List Nat) (s:RunS),(∀k∈L,1<=k)->Calm s->Calm (L.foldl (waveS r) s):=by
 intro L
 induction L with
 |nil=>exact fun s _ h=>h
 |cons k L ih=>
  intro s hk h
  rw[List.foldl_cons]
  refine ih _ (fun k' h'=>hk k' (List.mem_cons_of_mem _ h')) ?_
  have:=hk k (List.mem_cons_self ..)
  exact h.send (calm_of (by show(6:Int)<=7;omega) rfl (by show(0:Int)≠(k:Int);omega) (fun e=>by simp at e) (fun _=>rfl))
theorem Calm.noted{s:RunS}(h:Calm s)(a b:Int)(c:Bool):Calm (notedS s a b c):=by
 unfold notedS
 split
 ·exact h
 ·exact h.rest rfl rfl
theorem Calm.check{N:Nat}{s:RunS}(h:Calm s)(hf:Fine N s):Calm (checkS s).1:=by
 have h2:=hf.two
 unfold checkS
 split
 ·exact h
 ·split
  ·rename_i hm
   unfold ringS
   split
   ·exact h
   ·split
    ·exact h
    ·split
     ·exact h.rest rfl rfl
     ·show Calm (sendS _ _)
      refine Calm.send ?_ ?_
      ·exact h.rest rfl rfl
      ·exact calm_of (by show(5:Int)<=7;omega) rfl (by show(0:Int)≠s.workers - 1;omega) (fun _=>hm) (fun e=>by simp at e)
  ·unfold wavesS
   split
   ·exact h
   ·split
    ·exact h
    ·split
     ·exact h.rest rfl rfl
     ·refine Calm.waves _ _ (fun k hk=> ?_) (Calm.noted ?_ _ _ _)
      ·simp at hk;omega
      ·exact h.rest rfl rfl
theorem setLink_set(s:RunS)(i j:Nat)(l l':LinkS)(hl:i < s.links.length):setLink (setLink s i j l) i j l'=setLink s i j l':=by
 unfold setLink
 dsimp only
 rw[List.getElem?_set_self hl]
 simp[List.getElem?_eq_getElem hl]
theorem sendS_setLink(s:RunS)(m:MsgS){i j:Nat}(l:LinkS)(hi:m.src.toNat≠i):sendS (setLink s i j l) m=setLink (sendS s m) i j l:=by
 have e:∀a,a≠i->(s.links.set i ((s.links[i]?.getD []).set j l))[a]?= s.links[a]?:=fun a ha=>List.getElem?_set_ne (fun e=>ha e.symm)
 have e2:∀(R:List LinkS),(s.links.set m.src.toNat R)[i]?= s.links[i]?:=fun R=>List.getElem?_set_ne hi
 unfold sendS wayS setLink
 dsimp only
 rw[e _ hi]
 have c:∀R,(s.links.set i ((s.links[i]?.getD []).set j l)).set m.src.toNat R=(s.links.set m.src.toNat R).set i ((s.links[i]?.getD []).set j l):=fun R=>List.set_comm _ _ (fun e=>hi e.symm)
 split<;>split<;>simp only[e2,c]<;>rfl
theorem cameS_setLink(s:RunS){m:MsgS}{i j:Nat}(l:LinkS)(hs:m.dst.toNat≠i):cameS (setLink s i j l) m=setLink (cameS s m) i j l:=by
 have hW:(setLink s i j l).W=s.W:=rfl
 unfold cameS
 dsimp only
 rw[hW]
 split
 ·split
  ·exact sendS_setLink s _ l hs
  ·rename_i t r _
   exact sendS_setLink {s with W:=s.W.set m.dst.toNat {s.W[m.dst.toNat]?.getD worker0 with tasks:=r}} _ l hs
 ·split
  ·rfl
  ·split
   ·rfl
   ·split
    ·rfl
    ·split
     ·rfl
     ·split
      ·exact sendS_setLink s _ l hs
      ·split
       ·unfold notedS
        have:(setLink s i j l).answers=s.answers:=rfl
        rw[this]
        split<;>rfl
       ·rfl
theorem foldl_setLink{i j:Nat}(l:LinkS):∀(L:List MsgS) (s:RunS),(∀m∈L,m.dst.toNat≠i)->L.foldl cameS (setLink s i j l)=setLink (L.foldl cameS s) i j l:=by
 intro L
 induction L with
 |nil=>exact fun s _=>rfl
 |cons m L ih=>
  intro s h
  rw[List.foldl_cons,List.foldl_cons,cameS_setLink s l (h m (List.mem_cons_self ..))]
  exact ih _ (fun m' h'=>h m' (List.mem_cons_of_mem _ h'))
theorem comeS_fold{i j:Nat}:∀(n f N d:Nat) (s:RunS),Fine N s->i < s.W.length->j < s.W.length->N+d<=90000000->(∀k∈(linkOf s i j).kept,k<=(linkOf s i j).came+d)->i≠j->Comes (linkOf s i j) n->n < f->n<=d->
  comeS f s i j=(((linkOf s i j).all.drop (linkOf s i j).came.toNat).take n).foldl cameS (setLink s i j ((linkOf s i j).on n)):=by
 intro n
 induction n with
 |zero=>
  intro f N d s h hi hj hN hk hij hc hf hd
  have h0:=hc.last
  rw[on_zero]at h0
  have hs:setLink s i j (linkOf s i j)=s:=by
   unfold setLink linkOf
   have hl:i < s.links.length:=by rw[h.llen];exact hi
   have hr:=h.lrow _ (List.getElem_mem hl)
   rw[List.getElem?_eq_getElem hl]
   have hj':j < s.links[i].length:=by omega
   simp[List.getElem?_eq_getElem hj']
  rw[List.take_zero,List.foldl_nil,on_zero,hs]
  cases f with
  |zero=>omega
  |succ f=>unfold comeS;rw[if_neg (by rw[h0];simp)]
 |succ n ih=>
  intro f N d s h hi hj hN hk hij hc hf hd
  cases f with
  |zero=>omega
  |succ f=>
   have h0:=hc.each 0 (by omega)
   rw[on_zero]at h0
   have hlk:=h.links i j hi hj
   have hnx:(linkOf s i j).came+1∈(linkOf s i j).kept:=by
    unfold nextB at h0
    obtain⟨x,hx,e⟩:=List.any_eq_true.1 h0
    rw[<-(beq_iff_eq.1 e)];exact hx
   have hb:=hlk.kept _ hnx
   have hc0:=hlk.came
   obtain⟨m,hm⟩:∃m,(linkOf s i j).all[(linkOf s i j).came.toNat]?= some m:=⟨_,List.getElem?_eq_getElem (by omega)⟩
   have hmo:=hlk.msgs _ m hm
   have hset:=linkOf_set {linkOf s i j with came:=(linkOf s i j).came+1} h.llen h.lrow hi hj i j
   rw[if_pos ⟨rfl,rfl⟩]at hset
   have hF1:Fine N (setLink s i j {linkOf s i j with came:=(linkOf s i j).came+1}):=h.relink hi hj (L:=[]) (by simp) ⟨hlk.msgs,hlk.all,hlk.known,by dsimp only;omega,fun k hk'=>by have:=hlk.kept k hk';dsimp only;omega,hlk.klen⟩ (Nat.le_refl _)
   have hmo1:MsgOK (setLink s i j {linkOf s i j with came:=(linkOf s i j).came+1}).ks ((setLink s i j {linkOf s i j with came:=(linkOf s i j).came+1}).answers≠ []) N i j (linkOf s i j).came.toNat m:=hmo
   have hstep:stepS s i j=cameS (setLink s i j {linkOf s i j with came:=(linkOf s i j).came+1}) m:=by unfold stepS;rw[hm];rfl
   have hl2:=(cameS_link hF1 hi hj hmo1).1
   have hlen2:(cameS (setLink s i j {linkOf s i j with came:=(linkOf s i j).came+1}) m).W.length=s.W.length:=(cameS_link hF1 hi hj hmo1).2
   rw[hset]at hl2
   have hF2:=hF1.came (by omega) hi hj hmo1
   have hd1:m.dst.toNat≠i:=by have:=hmo.dst;omega
   unfold comeS
   rw[if_pos h0,hstep]
   have e1:({linkOf s i j with came:=(linkOf s i j).came+1}:LinkS)=(linkOf s i j).on 1:=rfl
   rw[ih f (N+1) (d - 1) _ hF2 (by rw[hlen2];exact hi) (by rw[hlen2];exact hj) (by omega) (by rw[hl2];intro k hk';have:=hk k hk';dsimp only;omega) hij (by
    rw[hl2,e1]
    exact⟨fun k hk'=>by rw[on_on,Nat.add_comm];exact hc.each _ (by omega),by rw[on_on,Nat.add_comm];exact hc.last⟩) (by omega) (by omega)]
   rw[hl2,e1,on_on,Nat.add_comm 1 n]
   rw[<-cameS_setLink _ _ hd1,setLink_set _ _ _ _ _ (by rw[h.llen];exact hi)]
   have hdrop:(linkOf s i j).all.drop (linkOf s i j).came.toNat=m :: (linkOf s i j).all.drop ((linkOf s i j).came.toNat+1):=by
    rw[List.drop_eq_getElem_cons (List.getElem?_eq_some_iff.1 hm).1,(List.getElem?_eq_some_iff.1 hm).2]
   rw[hdrop,List.take_succ_cons,List.foldl_cons]
   have hcame:((linkOf s i j).on 1).came.toNat=(linkOf s i j).came.toNat+1:=by
    show((linkOf s i j).came+1).toNat=_
    omega
   rw[hcame]
   rfl
end Go.Proofs.YtfanaanofjhlkaaGreatDoor
