import Derived.Test.YtfanaanofjhlkaaGreatDoorPolite
namespace Go.Proofs.YtfanaanofjhlkaaGreatDoor
open Go Go.RowKit
structure Own(T:TaskS->Prop)(s:RunS):Prop where
 tasks:∀x∈s.W,∀t∈x.tasks,T t
 grants:∀(i j:Nat),∀m∈(linkOf s i j).all,m.kind=2->T m.t
 results:∀(i j:Nat),∀m∈(linkOf s i j).all,m.kind=4->∃t,T t/\m.v=(t.id,valueOf s.ks t)
 vals:∀v∈s.values,∃t,T t/\v=(t.id,valueOf s.ks t)
theorem sendS_all(s:RunS)(m:MsgS)(hl:s.links.length=s.W.length)(hr:∀ls∈s.links,ls.length=s.W.length)(hi:m.src.toNat < s.W.length)(hj:m.dst.toNat < s.W.length)(a b:Nat):∀m'∈(linkOf (sendS s m) a b).all,m'∈(linkOf s a b).all\/∃n,m'={m with no:=n}:=by
 intro m' hm
 by_cases h:a=m.src.toNat/\b=m.dst.toNat
 ·obtain⟨rfl,rfl⟩:=h
  have e:linkOf (sendS s m) m.src.toNat m.dst.toNat=linkOf (setLink s m.src.toNat m.dst.toNat {linkOf s m.src.toNat m.dst.toNat with all:=(linkOf s m.src.toNat m.dst.toNat).all++ [{m with no:=(linkOf s m.src.toNat m.dst.toNat).all.length+1}]}) m.src.toNat m.dst.toNat:=by
   have e1:(sendS s m).links=(setLink s m.src.toNat m.dst.toNat {linkOf s m.src.toNat m.dst.toNat with all:=(linkOf s m.src.toNat m.dst.toNat).all++ [{m with no:=(linkOf s m.src.toNat m.dst.toNat).all.length+1}]}).links:=by
    unfold sendS wayS
    dsimp only
    split<;>split<;>rfl
   show((sendS s m).links[m.src.toNat]?.getD [])[m.dst.toNat]?.getD link0=_
   rw[e1]
   rfl
  rw[e,linkOf_set _ hl hr hi hj,if_pos ⟨rfl,rfl⟩]at hm
  rcases List.mem_append.1 hm with h|h
  ·exact .inl h
  ·exact .inr ⟨_,List.mem_singleton.1 h⟩
 ·rw[sendS_link s m hl hr hi hj h]at hm
  exact .inl hm
theorem Own.send{T:TaskS->Prop}{N:Nat}{s:RunS}(ho:Own T s)(h:Fine N s){m:MsgS}(hi:m.src.toNat < s.W.length)(hj:m.dst.toNat < s.W.length)(h2:m.kind=2->T m.t)(h4:m.kind=4->∃t,T t/\m.v=(t.id,valueOf s.ks t)):Own T (sendS s m):=by
 obtain⟨-,-,hk⟩:=sendS_rest s m
 refine⟨fun x hx t ht=> ?_,fun i j m' hm e=> ?_,fun i j m' hm e=> ?_,fun v hv=> ?_⟩
 ·obtain⟨k,hk,rfl⟩:=List.mem_iff_getElem.1 hx
  obtain⟨y,hy,-,e⟩:=sendS_get s m (List.getElem?_eq_getElem hk)
  rw[e]at ht
  exact ho.tasks y (List.mem_of_getElem? hy) t ht
 ·rcases sendS_all s m h.llen h.lrow hi hj i j m' hm with h'|⟨n,rfl⟩
  ·exact ho.grants i j m' h' e
  ·exact h2 e
 ·rw[hk]
  rcases sendS_all s m h.llen h.lrow hi hj i j m' hm with h'|⟨n,rfl⟩
  ·exact ho.results i j m' h' e
  ·exact h4 e
 ·rw[hk]
  rw[(sendS_tasks (fun _=>0) s m hi).2]at hv
  exact ho.vals v hv
theorem Own.reworker{T:TaskS->Prop}{s:RunS}(ho:Own T s)(i:Nat){x:WorkerS}(hx:∀t∈x.tasks,T t):Own T {s with W:=s.W.set i x}:=
 ⟨fun y hy t ht=>by
  rcases List.mem_or_eq_of_mem_set hy with e|rfl
  ·exact ho.tasks y e t ht
  ·exact hx t ht,ho.grants,ho.results,ho.vals⟩
theorem Own.relink{T:TaskS->Prop}{N:Nat}{s:RunS}(ho:Own T s)(h:Fine N s){i j:Nat}(hi:i < s.W.length)(hj:j < s.W.length){l:LinkS}(hl:l.all=(linkOf s i j).all):Own T (setLink s i j l):=by
 have e:∀a b,(linkOf (setLink s i j l) a b).all=(linkOf s a b).all:=fun a b=>by
  rw[linkOf_set _ h.llen h.lrow hi hj]
  split
  ·rename_i e
   rw[e.1,e.2];exact hl
  ·rfl
 exact⟨ho.tasks,fun a b m hm=>ho.grants a b m (by rw[<-e a b];exact hm),fun a b m hm=>ho.results a b m (by rw[<-e a b];exact hm),ho.vals⟩
theorem Own.rest{T:TaskS->Prop}{s s':RunS}(ho:Own T s)(h1:s'.W=s.W)(h2:s'.links=s.links)(h3:s'.values=s.values)(h4:s'.ks=s.ks):Own T s':=by
 have e:∀a b,linkOf s' a b=linkOf s a b:=fun a b=>by
  unfold linkOf
  rw[h2]
 exact⟨fun x hx=>ho.tasks x (by rw[<-h1];exact hx),fun a b m hm=>ho.grants a b m (by rw[<-e a b];exact hm),fun a b m hm=>by rw[h4];exact ho.results a b m (by rw[<-e a b];exact hm),fun v hv=>by rw[h4];exact ho.vals v (by rw[<-h3];exact hv)⟩
theorem putS_mem:∀(l:List (ByteArray×Int)) (x v:ByteArray×Int),v∈putS l x->v∈l\/v=x
 |[],x,v,h=> .inr (by simpa[putS]using h)
 |y :: r,x,v,h=>by
  unfold putS at h
  split at h
  ·rcases List.mem_cons.1 h with e|e
   ·exact .inr e
   ·exact .inl e
  ·rcases List.mem_cons.1 h with e|e
   ·exact .inl (by rw[e];exact List.mem_cons_self ..)
   ·rcases putS_mem r x v e with e'|e'
    ·exact .inl (List.mem_cons_of_mem _ e')
    ·exact .inr e'
theorem Own.revals{T:TaskS->Prop}{s:RunS}(ho:Own T s){x:ByteArray×Int}(hx:∃t,T t/\x=(t.id,valueOf s.ks t)):Own T {s with values:=putS s.values x}:=
 ⟨ho.tasks,ho.grants,ho.results,fun v hv=>by
  rcases putS_mem _ _ _ hv with e|e
  ·exact ho.vals v e
  ·rw[e];exact hx⟩
theorem Own.came{T:TaskS->Prop}{N:Nat}{s:RunS}{i j n:Nat}{m:MsgS}(ho:Own T s)(h:Fine N s)(hi:i < s.W.length)(hj:j < s.W.length)(hm:MsgOK s.ks (s.answers≠ []) N i j n m)(h2:m.kind=2->T m.t)(h4:m.kind=4->∃t,T t/\m.v=(t.id,valueOf s.ks t)):Own T (cameS s m):=by
 have hs0:=hm.src
 have hd0:=hm.dst
 have hx:s.W[m.dst.toNat]?= some (s.W[m.dst.toNat]'(by omega)):=List.getElem?_eq_getElem _
 unfold cameS
 dsimp only
 rw[hx,Option.getD_some]
 generalize s.W[m.dst.toNat]'_=x at hx ⊢
 have hxo:=h.works x (List.mem_of_getElem? hx)
 have hxt:=ho.tasks x (List.mem_of_getElem? hx)
 split
 ·split
  ·exact ho.send h (by show m.dst.toNat < _;omega) (by show m.src.toNat < _;omega) (fun e=>by simp at e) (fun e=>by simp at e)
  ·rename_i t r ht
   have hwk:WorkerOK s.ks N {x with tasks:=r}:=⟨by have:=hxo.few;rw[ht]at this;simp at this;dsimp only;omega,fun c hc=>hxo.good c (by rw[ht];exact List.mem_cons_of_mem _ hc),hxo.sent,hxo.came,hxo.tok⟩
   exact(ho.reworker m.dst.toNat (x:={x with tasks:=r}) (fun c hc=>hxt c (by rw[ht];exact List.mem_cons_of_mem _ hc))).send (h.reworker m.dst.toNat hwk (Nat.le_refl _)) (by show m.dst.toNat < _;simp;omega) (by show m.src.toNat < _;simp;omega) (fun _=>hxt t (by rw[ht];exact List.mem_cons_self ..)) (fun e=>by simp at e)
 ·split
  ·rename_i hk
   exact ho.reworker _ (fun c hc=>by
    rcases List.mem_append.1 hc with e|e
    ·exact hxt c e
    ·rw[List.mem_singleton.1 e];exact h2 hk)
  ·split
   ·exact ho.reworker _ hxt
   ·split
    ·rename_i hk
     exact(ho.reworker m.dst.toNat (x:={x with came:=x.came+1,black:=true}) hxt).revals (h4 hk)
    ·split
     ·exact(ho.reworker m.dst.toNat (x:={x with has:=true,token:=m}) hxt).rest rfl rfl rfl rfl
     ·split
      ·exact ho.send h (by show m.dst.toNat < _;omega) (by show(0:Int).toNat < _;simp;omega) (fun e=>by simp at e) (fun e=>by simp at e)
      ·split
       ·unfold notedS
        split
        ·exact ho
        ·exact ho.rest rfl rfl rfl rfl
       ·exact ho
theorem Own.step{T:TaskS->Prop}{N:Nat}{s:RunS}(ho:Own T s)(h:Fine N s){i j:Nat}(hi:i < s.W.length)(hj:j < s.W.length)(hb:nextB (linkOf s i j)=true):Own T (stepS s i j):=by
 have hl:=h.links i j hi hj
 have hmem:(linkOf s i j).came+1∈(linkOf s i j).kept:=by
  unfold nextB at hb
  obtain⟨y,hy,hye⟩:=List.any_eq_true.1 hb
  have:y=(linkOf s i j).came+1:=by simpa using hye
  rw[<-this];exact hy
 have hk:=hl.kept _ hmem
 have hc:=hl.came
 have hs1:Fine N (setLink s i j {linkOf s i j with came:=(linkOf s i j).came+1}):=h.relink hi hj (L:=[]) (by simp) ⟨hl.msgs,hl.all,hl.known,by dsimp only;omega,fun n hn=>by have:=hl.kept n hn;dsimp only;omega,hl.klen⟩ (Nat.le_refl _)
 have hg:(linkOf s i j).all[(linkOf s i j).came.toNat]?= some ((linkOf s i j).all[(linkOf s i j).came.toNat]'(by omega)):=List.getElem?_eq_getElem _
 have hm:=hl.msgs _ _ hg
 have hin:=List.mem_of_getElem? hg
 unfold stepS
 rw[hg,Option.getD_some]
 exact Own.came (ho.relink h hi hj rfl) hs1 hi hj hm (ho.grants i j _ hin) (ho.results i j _ hin)
theorem Own.come{T:TaskS->Prop}{i j:Nat}:∀(f d N:Nat) (s:RunS),Own T s->Fine N s->i < s.W.length->j < s.W.length->N+d<=90000000->(∀n∈(linkOf s i j).kept,n<=(linkOf s i j).came+d)->Own T (comeS f s i j):=by
 intro f
 induction f with
 |zero=>intro d N s ho _ _ _ _ _;exact ho
 |succ f ih=>
  intro d N s ho h hi hj hN hd
  unfold comeS
  split
  ·rename_i hb
   obtain⟨h1,h2,h3,h4⟩:=h.step (by omega) hi hj hb
   have hd1:=hd _ h4
   exact ih (d - 1) (N+1) _ (ho.step h hi hj hb) h1 (by omega) (by omega) (by omega) (fun n hn=>by rw[h2]at hn ⊢;have:=hd n hn;dsimp only;omega)
  ·exact ho
theorem wayS_ks(s:RunS)(m:MsgS):(wayS s m).ks=s.ks:=by
 unfold wayS
 split<;>rfl
theorem Own.way{T:TaskS->Prop}{s:RunS}(ho:Own T s)(m:MsgS):Own T (wayS s m):=ho.rest (wayS_rest s m).2.1 (wayS_rest s m).1 (wayS_rest s m).2.2 (wayS_ks s m)
theorem Own.deliver{T:TaskS->Prop}{N:Nat}{s:RunS}(ho:Own T s)(h:Fine N s)(hN:N+5<=90000000)(k:Int):Own T (deliverS s k).1:=by
 unfold deliverS
 split
 ·exact ho
 ·rename_i hme
  obtain⟨h0,h1⟩:=messageE_range hme
  have hg:s.way[k.toNat]?= some (s.way[k.toNat]'(by omega)):=List.getElem?_eq_getElem _
  have hw:=h.ways _ (List.mem_of_getElem? hg)
  rw[hg]
  dsimp only[Option.getD_some]
  generalize s.way[k.toNat]=m at hw ⊢
  have hu:=h.unway k.toNat
  have hou:Own T {s with way:=s.way.take k.toNat++s.way.drop (k.toNat+1)}:=ho.rest rfl rfl rfl rfl
  obtain⟨hsl,hse⟩:=h.nat hw.src.1 hw.src.2
  obtain⟨hdl,hde⟩:=h.nat hw.dst.1 hw.dst.2
  split
  ·split
   ·exact hou.relink hu hdl hsl (l:={linkOf {s with way:=s.way.take k.toNat++s.way.drop (k.toNat+1)} m.dst.toNat m.src.toNat with known:=m.no}) rfl
   ·exact hou
  ·rename_i hk0
   obtain⟨n,hn,hne⟩:=hw.sent hk0
   have hnl:=(List.getElem?_eq_some_iff.1 hne).1
   have hkp:=hu.keep hsl hdl (n:=m.no) (by rw[hn];show(n:Int)+1<=((linkOf s m.src.toNat m.dst.toNat).all.length:Int);omega)
   have hok:Own T (setLink {s with way:=s.way.take k.toNat++s.way.drop (k.toNat+1)} m.src.toNat m.dst.toNat (keepS (linkOf {s with way:=s.way.take k.toNat++s.way.drop (k.toNat+1)} m.src.toNat m.dst.toNat) m.no)):=hou.relink hu hsl hdl (by
    unfold keepS
    split<;>rfl)
   exact(Own.come _ 4 _ _ hok hkp hsl hdl (by omega) (fun a ha=>((hkp.links _ _ hsl hdl).kept a ha).2.2)).way _
theorem Own.steal{T:TaskS->Prop}{N:Nat}{s:RunS}(ho:Own T s)(h:Fine N s)(i v:Int):Own T (stealS s i v).1:=by
 unfold stealS
 split
 ·exact ho
 ·rename_i hi
  split
  ·exact ho
  ·rename_i hv
   split
   ·exact ho
   ·obtain⟨hi0,hi1⟩:=workerE_range hi
    obtain⟨hv0,hv1⟩:=workerE_range hv
    obtain⟨hil,hie⟩:=h.nat hi0 hi1
    obtain⟨hvl,hve⟩:=h.nat hv0 hv1
    split
    ·exact ho
    ·rename_i x hx
     have hxo:=h.works x (List.mem_of_getElem? hx)
     split
     ·exact ho
     ·exact(ho.reworker i.toNat (x:={x with asked:=true}) (ho.tasks x (List.mem_of_getElem? hx))).send (h.reworker i.toNat (x:={x with asked:=true}) ⟨hxo.few,hxo.good,hxo.sent,hxo.came,hxo.tok⟩ (Nat.le_refl _)) (by simpa using hil) (by simpa using hvl) (fun e=>by simp at e) (fun e=>by simp at e)
theorem Own.work{T:TaskS->Prop}{N:Nat}{s:RunS}(ho:Own T s)(h:Fine N s)(hT:∀t,T t->∀c∈children s.ks t,T c)(i:Int):Own T (workS s i).1:=by
 unfold workS
 split
 ·exact ho
 ·rename_i hw
  obtain⟨h0,hlt⟩:=workerE_range hw
  obtain⟨hil,hie⟩:=h.nat h0 hlt
  split
  ·exact ho
  ·rename_i x hx
   have hxo:=h.works x (List.mem_of_getElem? hx)
   have hxt:=ho.tasks x (List.mem_of_getElem? hx)
   split
   ·exact ho
   ·rename_i t ht
    have htm:t∈x.tasks:=List.mem_of_getLast? ht
    split
    ·exact ho.rest rfl rfl rfl rfl
    ·rename_i hroom
     have ho1:Own T {s with W:=s.W.set i.toNat {x with tasks:=x.tasks.dropLast++children s.ks t}}:=ho.reworker _ (fun c hc=>by
      rcases List.mem_append.1 hc with e|e
      ·exact hxt c ((List.dropLast_sublist _).subset e)
      ·exact hT t (hxt t htm) c e)
     dsimp only
     split
     ·exact ho1.revals ⟨t,hxt t htm,rfl⟩
     ·have hne:x.tasks.length≠0:=fun e=>by rw[List.length_eq_zero_iff]at e;rw[e]at htm;simp at htm
      have hwk:WorkerOK s.ks N {x with tasks:=x.tasks.dropLast++children s.ks t}:=by
       refine⟨?_,fun c hc=> ?_,hxo.sent,hxo.came,hxo.tok⟩
       ·have:=h.rmax
        simp
        omega
       ·rcases List.mem_append.1 hc with e|e
        ·exact hxo.good c ((List.dropLast_sublist _).subset e)
        ·exact childrenFrom_good h.prog (hxo.good t htm) c e
      have h2:=h.two
      have hlen:=h.len
      exact ho1.send (h.reworker i.toNat hwk (Nat.le_refl _)) (by simpa using hil) (by simp;omega) (fun e=>by simp at e) (fun _=>⟨t,hxt t htm,rfl⟩)
theorem Own.drop{T:TaskS->Prop}{s:RunS}(ho:Own T s)(k:Int):Own T (dropS s k).1:=by
 unfold dropS
 split
 ·exact ho
 ·exact ho.rest rfl rfl rfl rfl
theorem Own.twice{T:TaskS->Prop}{s:RunS}(ho:Own T s)(k:Int):Own T (twiceS s k).1:=by
 unfold twiceS
 split
 ·exact ho
 ·exact ho.way _
theorem Own.tick{T:TaskS->Prop}{s:RunS}(ho:Own T s)(i:Int):Own T (tickS s i).1:=by
 unfold tickS
 split
 ·exact ho
 ·have key:∀(L:List LinkS) (s:RunS),Own T s->Own T (L.foldl againS s):=by
   intro L
   induction L with
   |nil=>intro s h;exact h
   |cons l r ih=>
    intro s h
    rw[List.foldl_cons]
    refine ih _ ?_
    unfold againS
    split
    ·exact h.way _
    ·exact h
  exact key _ _ ho
theorem Own.pass{T:TaskS->Prop}{N:Nat}{s:RunS}(ho:Own T s)(h:Fine N s)(i:Int):Own T (passS s i).1:=by
 unfold passS
 split
 ·exact ho
 ·rename_i hw
  obtain⟨h0,hlt⟩:=workerE_range hw
  obtain⟨hil,hie⟩:=h.nat h0 hlt
  split
  ·exact ho
  ·rename_i x hx
   split
   ·exact ho
   ·rename_i hc
    have hi0:i≠0:=fun e=>hc (.inr (.inl e))
    dsimp only
    exact(ho.send h (m:={msg0 with src:=i,dst:=i - 1,kind:=5,count:=x.token.count+x.sent - x.came,black:=x.token.black||x.black}) hil (by show(i - 1).toNat < _;omega) (fun e=>by simp at e) (fun e=>by simp at e)).reworker i.toNat (ho.tasks x (List.mem_of_getElem? hx))
theorem Own.waves{T:TaskS->Prop}{n:Int}:∀(L:List Nat) (N:Nat) (s:RunS),Own T s->Fine N s->s.answers≠ []->(∀k∈L,1<=k/\k < s.W.length)->Own T (L.foldl (waveS n) s):=by
 intro L
 induction L with
 |nil=>intro N s ho h _ _;exact ho
 |cons k r ih=>
  intro N s ho h ha hL
  have hk:=hL k (List.mem_cons_self ..)
  obtain⟨e1,e2,-⟩:=sendS_rest s {msg0 with src:=0,dst:=k,kind:=6,round:=n}
  have hs:Fine (N+1) (waveS n s k):=h.waves [k] _ _ ha (fun a b=>by rw[List.mem_singleton.1 b];exact hk)
  have hos:Own T (waveS n s k):=ho.send h (by show(0:Int).toNat < _;simp;omega) (by show(k:Int).toNat < _;simp;omega) (fun e=>by simp at e) (fun e=>by simp at e)
  rw[List.foldl_cons]
  exact ih (N+1) (waveS n s k) hos hs (by show(sendS _ _).answers≠ [];rw[e1];exact ha) (fun a b=>by show 1<=a/\a < (sendS _ _).W.length;rw[e2];exact hL a (List.mem_cons_of_mem _ b))
theorem Own.check{T:TaskS->Prop}{N:Nat}{s:RunS}(ho:Own T s)(h:Fine N s)(hN:N<=1000000000):Own T (checkS s).1:=by
 have h2:=h.two
 have hl:=h.len
 unfold checkS
 split
 ·exact ho
 ·split
  ·unfold ringS
   split
   ·exact ho
   ·rename_i x hx
    have hxo:=h.works x (List.mem_of_getElem? hx)
    split
    ·exact ho
    ·split
     ·exact ho.rest rfl rfl rfl rfl
     ·exact(ho.reworker 0 (x:={x with black:=false,has:=false}) (ho.tasks x (List.mem_of_getElem? hx))).send (h.reworker 0 (x:={x with black:=false,has:=false}) ⟨hxo.few,hxo.good,hxo.sent,hxo.came,hxo.tok⟩ (Nat.le_refl _)) (by show(0:Int).toNat < _;simp;omega) (by show(s.workers - 1).toNat < _;simp;omega) (fun e=>by simp at e) (fun e=>by simp at e)
  ·unfold wavesS
   split
   ·exact ho
   ·rename_i x hx
    have hxo:=h.works x (List.mem_of_getElem? hx)
    split
    ·exact ho
    ·split
     ·exact ho.rest rfl rfl rfl rfl
     ·have h3:Fine (N+1) {s with answers:=s.answers++ [⟨0,0,0,true⟩]}:=h.reans (by have:=h.alen;simp;omega) (by simp) (fun a ha=>by
       rcases List.mem_append.1 ha with e|e
       ·exact(h.ans a e).more (Nat.le_succ N)
       ·rw[List.mem_singleton.1 e];exact⟨by dsimp only;omega,by dsimp only;omega,by dsimp only;omega⟩) (Nat.le_succ N)
      have hsn:=hxo.sent
      have hcm:=hxo.came
      have h4:=h3.noted (a:=x.sent) (b:=x.came) true (by omega) (by omega)
      have hne:(notedS {s with answers:=s.answers++ [⟨0,0,0,true⟩]} x.sent x.came true).answers≠ []:=by
       unfold notedS
       split<;>simp
      have hwl:(notedS {s with answers:=s.answers++ [⟨0,0,0,true⟩]} x.sent x.came true).W.length=s.W.length:=by
       unfold notedS
       split<;>rfl
      have hon:Own T (notedS {s with answers:=s.answers++ [⟨0,0,0,true⟩]} x.sent x.came true):=by
       unfold notedS
       split<;>exact ho.rest rfl rfl rfl rfl
      refine Own.waves (List.range' 1 (s.W.length - 1)) (N+1+1) _ hon h4 hne (fun k hk=> ?_)
      rw[hwl]
      have:=List.mem_range'_1.1 hk
      omega
theorem Own.new{T:TaskS->Prop}{workers room mode kind arg:Int}{ks:List KindS}(h:T ⟨⟨#[]⟩,kind,arg⟩):Own T (newS workers room mode ks kind arg):=by
 have hl:∀(i j:Nat),(linkOf (newS workers room mode ks kind arg) i j).all=[]:=fun i j=>by
  unfold linkOf newS
  dsimp only
  by_cases hi:i < workers.toNat
  ·by_cases hj:j < workers.toNat
   ·simp[hi,hj,link0]
   ·simp[hi,hj,link0]
  ·simp[hi,link0]
 refine⟨fun x hx t ht=> ?_,fun i j m hm=>by rw[hl]at hm;simp at hm,fun i j m hm=>by rw[hl]at hm;simp at hm,fun v hv=>by simp[newS]at hv⟩
 rcases List.mem_cons.1 hx with e|e
 ·subst e
  simp at ht
  subst ht
  exact h
 ·rw[List.eq_of_mem_replicate e]at ht
  simp[worker0]at ht
theorem isum_set{α:Type}(g:α->Int):∀(l:List α) (i:Nat) (x y:α),l[i]?= some y->((l.set i x).map g).sum+g y=(l.map g).sum+g x
 |[],i,x,y,h=>by simp at h
 |a :: r,0,x,y,h=>by
  simp at h
  subst h
  simp
  omega
 |a :: r,i+1,x,y,h=>by
  have:=isum_set g r i x y (by simpa using h)
  rw[List.set_cons_succ,List.map_cons,List.map_cons,List.sum_cons,List.sum_cons]
  omega
def works(m:MsgS):Nat:=if m.kind=2\/m.kind=4 then 1 else 0
def bal(s:RunS):Int:=(s.W.map fun x=>x.sent - x.came).sum
theorem bal_set{s:RunS}{i:Nat}{x:WorkerS}(x':WorkerS)(hx:s.W[i]?= some x):bal {s with W:=s.W.set i x'}+(x.sent - x.came)=bal s+(x'.sent - x'.came):=isum_set (fun x:WorkerS=>x.sent - x.came) s.W i x' x hx
theorem bal_congr{s s':RunS}(h:s.W=s'.W):bal s=bal s':=by
 unfold bal
 rw[h]
theorem bal_send(s:RunS)(m:MsgS)(hi:m.src.toNat < s.W.length):bal (sendS s m)=bal s+works m:=by
 have hx:s.W[m.src.toNat]?= some (s.W[m.src.toNat]'hi):=List.getElem?_eq_getElem _
 by_cases hk:m.kind=2\/m.kind=4
 ·have e:=bal_set {s.W[m.src.toNat]?.getD worker0 with sent:=(s.W[m.src.toNat]?.getD worker0).sent+1} hx
  have hW:(sendS s m).W=s.W.set m.src.toNat {s.W[m.src.toNat]?.getD worker0 with sent:=(s.W[m.src.toNat]?.getD worker0).sent+1}:=by
   unfold sendS wayS
   simp only[if_pos hk]
   split<;>rfl
  have e2:bal (sendS s m)=bal {s with W:=s.W.set m.src.toNat {s.W[m.src.toNat]?.getD worker0 with sent:=(s.W[m.src.toNat]?.getD worker0).sent+1}}:=bal_congr hW
  have e3:s.W[m.src.toNat]?.getD worker0=s.W[m.src.toNat]'hi:=by rw[hx,Option.getD_some]
  rw[e2]
  simp only[works,if_pos hk]
  dsimp only at e
  rw[e3]at e ⊢
  omega
 ·rw[bal_congr (sendS_W s m hk)]
  simp[works,hk]
structure Even(e:Nat)(s:RunS):Prop where
 eq:bal s=(total works s:Int)+e
theorem Even.send{N:Nat}{s:RunS}{e:Nat}(hv:Even e s)(h:Fine N s){m:MsgS}(hi:m.src.toNat < s.W.length)(hj:m.dst.toNat < s.W.length):Even e (sendS s m):=by
 obtain⟨n,ht⟩:=total_send works h m hi hj
 have:works {m with no:=n}=works m:=rfl
 rw[this]at ht
 have hv:=hv.eq
 refine⟨?_⟩
 rw[bal_send s m hi,ht]
 omega
theorem Even.rest{s s':RunS}{e:Nat}(hv:Even e s)(h1:s'.W=s.W)(h2:s'.links=s.links):Even e s':=by
 refine⟨?_⟩
 rw[bal_congr h1,total_congr works h2]
 exact hv.eq
theorem Even.reworker{s:RunS}{e e':Nat}(hv:Even e s){i:Nat}{x x':WorkerS}(hx:s.W[i]?= some x)(h:x'.sent - x'.came+e=x.sent - x.came+(e':Int)):Even e' {s with W:=s.W.set i x'}:=by
 have h1:=bal_set x' hx
 have h2:total works {s with W:=s.W.set i x'}=total works s:=total_congr works rfl
 have hv:=hv.eq
 refine⟨?_⟩
 rw[h2]
 omega
theorem Even.came{N:Nat}{s:RunS}{i j n:Nat}{m:MsgS}(hv:Even (works m) s)(h:Fine N s)(hi:i < s.W.length)(hj:j < s.W.length)(hm:MsgOK s.ks (s.answers≠ []) N i j n m):Even 0 (cameS s m):=by
 have hs0:=hm.src
 have hd0:=hm.dst
 have hx:s.W[m.dst.toNat]?= some (s.W[m.dst.toNat]'(by omega)):=List.getElem?_eq_getElem _
 unfold cameS
 dsimp only
 rw[hx,Option.getD_some]
 generalize s.W[m.dst.toNat]'_=x at hx ⊢
 have hxo:=h.works x (List.mem_of_getElem? hx)
 split
 ·rename_i h1
  have w0:works m=0:=by simp[works,h1]
  rw[w0]at hv
  split
  ·exact hv.send h (by show m.dst.toNat < _;omega) (by show m.src.toNat < _;omega)
  ·rename_i t r ht
   have hwk:WorkerOK s.ks N {x with tasks:=r}:=⟨by have:=hxo.few;rw[ht]at this;simp at this;dsimp only;omega,fun c hc=>hxo.good c (by rw[ht];exact List.mem_cons_of_mem _ hc),hxo.sent,hxo.came,hxo.tok⟩
   exact(hv.reworker hx (x':={x with tasks:=r}) (e':=0) rfl).send (h.reworker m.dst.toNat hwk (Nat.le_refl _)) (by show m.dst.toNat < _;simp;omega) (by show m.src.toNat < _;simp;omega)
 ·split
  ·rename_i h2
   have w0:works m=1:=by simp[works,h2]
   rw[w0]at hv
   exact hv.reworker hx (by dsimp only;omega)
  ·rename_i h2
   split
   ·rename_i h3
    have w0:works m=0:=by simp[works,h3]
    rw[w0]at hv
    exact hv.reworker hx rfl
   ·split
    ·rename_i h4
     have w0:works m=1:=by simp[works,h4]
     rw[w0]at hv
     exact(hv.reworker hx (x':={x with came:=x.came+1,black:=true}) (e':=0) (by dsimp only;omega)).rest rfl rfl
    ·rename_i h4
     have w0:works m=0:=by simp[works,h2,h4]
     rw[w0]at hv
     split
     ·exact(hv.reworker hx (x':={x with has:=true,token:=m}) (e':=0) rfl).rest rfl rfl
     ·split
      ·exact hv.send h (by show m.dst.toNat < _;omega) (by show(0:Int).toNat < _;simp;omega)
      ·split
       ·unfold notedS
        split
        ·exact hv
        ·exact hv.rest rfl rfl
       ·exact hv
theorem Even.relink{N:Nat}{s:RunS}{e:Nat}(hv:Even e s)(h:Fine N s){i j:Nat}(hi:i < s.W.length)(hj:j < s.W.length){l:LinkS}(ha:l.all=(linkOf s i j).all)(hc:l.came=(linkOf s i j).came):Even e (setLink s i j l):=by
 have h1:=total_set works l h.llen h.lrow hi hj
 have h2:linkSum works l=linkSum works (linkOf s i j):=by
  unfold linkSum
  rw[ha,hc]
 have h3:bal (setLink s i j l)=bal s:=bal_congr rfl
 have hv:=hv.eq
 refine⟨?_⟩
 rw[h3]
 omega
theorem Even.step{N:Nat}{s:RunS}(hv:Even 0 s)(h:Fine N s){i j:Nat}(hi:i < s.W.length)(hj:j < s.W.length)(hb:nextB (linkOf s i j)=true):Even 0 (stepS s i j):=by
 have hl:=h.links i j hi hj
 have hmem:(linkOf s i j).came+1∈(linkOf s i j).kept:=by
  unfold nextB at hb
  obtain⟨y,hy,hye⟩:=List.any_eq_true.1 hb
  have:y=(linkOf s i j).came+1:=by simpa using hye
  rw[<-this];exact hy
 have hk:=hl.kept _ hmem
 have hc:=hl.came
 have hs1:Fine N (setLink s i j {linkOf s i j with came:=(linkOf s i j).came+1}):=h.relink hi hj (L:=[]) (by simp) ⟨hl.msgs,hl.all,hl.known,by dsimp only;omega,fun n hn=>by have:=hl.kept n hn;dsimp only;omega,hl.klen⟩ (Nat.le_refl _)
 have hg:(linkOf s i j).all[(linkOf s i j).came.toNat]?= some ((linkOf s i j).all[(linkOf s i j).came.toNat]'(by omega)):=List.getElem?_eq_getElem _
 have hm:=hl.msgs _ _ hg
 unfold stepS
 rw[hg,Option.getD_some]
 refine Even.came ?_ hs1 hi hj hm
 have h1:=total_step works h hi hj hg
 have h3:bal (setLink s i j {linkOf s i j with came:=(linkOf s i j).came+1})=bal s:=bal_congr rfl
 have hv:=hv.eq
 refine⟨?_⟩
 rw[h3]
 omega
theorem Even.come{i j:Nat}:∀(f d N:Nat) (s:RunS),Even 0 s->Fine N s->i < s.W.length->j < s.W.length->N+d<=90000000->(∀n∈(linkOf s i j).kept,n<=(linkOf s i j).came+d)->Even 0 (comeS f s i j):=by
 intro f
 induction f with
 |zero=>intro d N s ho _ _ _ _ _;exact ho
 |succ f ih=>
  intro d N s ho h hi hj hN hd
  unfold comeS
  split
  ·rename_i hb
   obtain⟨h1,h2,h3,h4⟩:=h.step (by omega) hi hj hb
   have hd1:=hd _ h4
   exact ih (d - 1) (N+1) _ (ho.step h hi hj hb) h1 (by omega) (by omega) (by omega) (fun n hn=>by rw[h2]at hn ⊢;have:=hd n hn;dsimp only;omega)
  ·exact ho
theorem Even.way{s:RunS}(ho:Even 0 s)(m:MsgS):Even 0 (wayS s m):=ho.rest (wayS_rest s m).2.1 (wayS_rest s m).1
theorem Even.deliver{N:Nat}{s:RunS}(ho:Even 0 s)(h:Fine N s)(hN:N+5<=90000000)(k:Int):Even 0 (deliverS s k).1:=by
 unfold deliverS
 split
 ·exact ho
 ·rename_i hme
  obtain⟨h0,h1⟩:=messageE_range hme
  have hg:s.way[k.toNat]?= some (s.way[k.toNat]'(by omega)):=List.getElem?_eq_getElem _
  have hw:=h.ways _ (List.mem_of_getElem? hg)
  rw[hg]
  dsimp only[Option.getD_some]
  generalize s.way[k.toNat]=m at hw ⊢
  have hu:=h.unway k.toNat
  have hou:Even 0 {s with way:=s.way.take k.toNat++s.way.drop (k.toNat+1)}:=ho.rest rfl rfl
  obtain⟨hsl,hse⟩:=h.nat hw.src.1 hw.src.2
  obtain⟨hdl,hde⟩:=h.nat hw.dst.1 hw.dst.2
  split
  ·split
   ·exact hou.relink hu hdl hsl (l:={linkOf {s with way:=s.way.take k.toNat++s.way.drop (k.toNat+1)} m.dst.toNat m.src.toNat with known:=m.no}) rfl rfl
   ·exact hou
  ·rename_i hk0
   obtain⟨n,hn,hne⟩:=hw.sent hk0
   have hnl:=(List.getElem?_eq_some_iff.1 hne).1
   have hkp:=hu.keep hsl hdl (n:=m.no) (by rw[hn];show(n:Int)+1<=((linkOf s m.src.toNat m.dst.toNat).all.length:Int);omega)
   have hok:Even 0 (setLink {s with way:=s.way.take k.toNat++s.way.drop (k.toNat+1)} m.src.toNat m.dst.toNat (keepS (linkOf {s with way:=s.way.take k.toNat++s.way.drop (k.toNat+1)} m.src.toNat m.dst.toNat) m.no)):=hou.relink hu hsl hdl (by
    unfold keepS
    split<;>rfl) (by
    unfold keepS
    split<;>rfl)
   exact(Even.come _ 4 _ _ hok hkp hsl hdl (by omega) (fun a ha=>((hkp.links _ _ hsl hdl).kept a ha).2.2)).way _
theorem Even.steal{N:Nat}{s:RunS}(ho:Even 0 s)(h:Fine N s)(i v:Int):Even 0 (stealS s i v).1:=by
 unfold stealS
 split
 ·exact ho
 ·rename_i hi
  split
  ·exact ho
  ·rename_i hv
   split
   ·exact ho
   ·obtain⟨hi0,hi1⟩:=workerE_range hi
    obtain⟨hv0,hv1⟩:=workerE_range hv
    obtain⟨hil,hie⟩:=h.nat hi0 hi1
    obtain⟨hvl,hve⟩:=h.nat hv0 hv1
    split
    ·exact ho
    ·rename_i x hx
     have hxo:=h.works x (List.mem_of_getElem? hx)
     split
     ·exact ho
     ·exact(ho.reworker hx (x':={x with asked:=true}) (e':=0) rfl).send (h.reworker i.toNat (x:={x with asked:=true}) ⟨hxo.few,hxo.good,hxo.sent,hxo.came,hxo.tok⟩ (Nat.le_refl _)) (by simpa using hil) (by simpa using hvl)
theorem Even.work{N:Nat}{s:RunS}(ho:Even 0 s)(h:Fine N s)(i:Int):Even 0 (workS s i).1:=by
 unfold workS
 split
 ·exact ho
 ·rename_i hw
  obtain⟨h0,hlt⟩:=workerE_range hw
  obtain⟨hil,hie⟩:=h.nat h0 hlt
  split
  ·exact ho
  ·rename_i x hx
   have hxo:=h.works x (List.mem_of_getElem? hx)
   split
   ·exact ho
   ·rename_i t ht
    have htm:t∈x.tasks:=List.mem_of_getLast? ht
    split
    ·exact ho.rest rfl rfl
    ·rename_i hroom
     have ho1:Even 0 {s with W:=s.W.set i.toNat {x with tasks:=x.tasks.dropLast++children s.ks t}}:=ho.reworker hx rfl
     dsimp only
     split
     ·exact ho1.rest rfl rfl
     ·have hne:x.tasks.length≠0:=fun e=>by rw[List.length_eq_zero_iff]at e;rw[e]at htm;simp at htm
      have hwk:WorkerOK s.ks N {x with tasks:=x.tasks.dropLast++children s.ks t}:=by
       refine⟨?_,fun c hc=> ?_,hxo.sent,hxo.came,hxo.tok⟩
       ·have:=h.rmax
        simp
        omega
       ·rcases List.mem_append.1 hc with e|e
        ·exact hxo.good c ((List.dropLast_sublist _).subset e)
        ·exact childrenFrom_good h.prog (hxo.good t htm) c e
      have h2:=h.two
      have hlen:=h.len
      exact ho1.send (h.reworker i.toNat hwk (Nat.le_refl _)) (by simpa using hil) (by simp;omega)
theorem Even.pass{N:Nat}{s:RunS}(ho:Even 0 s)(h:Fine N s)(i:Int):Even 0 (passS s i).1:=by
 unfold passS
 split
 ·exact ho
 ·rename_i hw
  obtain⟨h0,hlt⟩:=workerE_range hw
  obtain⟨hil,hie⟩:=h.nat h0 hlt
  split
  ·exact ho
  ·rename_i x hx
   split
   ·exact ho
   ·rename_i hc
    have hi0:i≠0:=fun e=>hc (.inr (.inl e))
    dsimp only
    exact(ho.send h (m:={msg0 with src:=i,dst:=i - 1,kind:=5,count:=x.token.count+x.sent - x.came,black:=x.token.black||x.black}) hil (by show(i - 1).toNat < _;omega)).reworker (x:=x) (by rw[sendS_W _ _ (by dsimp only;decide)];exact hx) rfl
theorem Even.waves{n:Int}:∀(L:List Nat) (N:Nat) (s:RunS),Even 0 s->Fine N s->s.answers≠ []->(∀k∈L,1<=k/\k < s.W.length)->Even 0 (L.foldl (waveS n) s):=by
 intro L
 induction L with
 |nil=>intro N s ho h _ _;exact ho
 |cons k r ih=>
  intro N s ho h ha hL
  have hk:=hL k (List.mem_cons_self ..)
  obtain⟨e1,e2,-⟩:=sendS_rest s {msg0 with src:=0,dst:=k,kind:=6,round:=n}
  have hs:Fine (N+1) (waveS n s k):=h.waves [k] _ _ ha (fun a b=>by rw[List.mem_singleton.1 b];exact hk)
  have hos:Even 0 (waveS n s k):=ho.send h (by show(0:Int).toNat < _;simp;omega) (by show(k:Int).toNat < _;simp;omega)
  rw[List.foldl_cons]
  exact ih (N+1) (waveS n s k) hos hs (by show(sendS _ _).answers≠ [];rw[e1];exact ha) (fun a b=>by show 1<=a/\a < (sendS _ _).W.length;rw[e2];exact hL a (List.mem_cons_of_mem _ b))
theorem Even.check{N:Nat}{s:RunS}(ho:Even 0 s)(h:Fine N s)(hN:N<=1000000000):Even 0 (checkS s).1:=by
 have h2:=h.two
 have hl:=h.len
 unfold checkS
 split
 ·exact ho
 ·split
  ·unfold ringS
   split
   ·exact ho
   ·rename_i x hx
    have hxo:=h.works x (List.mem_of_getElem? hx)
    split
    ·exact ho
    ·split
     ·exact ho.rest rfl rfl
     ·exact(ho.reworker hx (x':={x with black:=false,has:=false}) (e':=0) rfl).send (h.reworker 0 (x:={x with black:=false,has:=false}) ⟨hxo.few,hxo.good,hxo.sent,hxo.came,hxo.tok⟩ (Nat.le_refl _)) (by show(0:Int).toNat < _;simp;omega) (by show(s.workers - 1).toNat < _;simp;omega)
  ·unfold wavesS
   split
   ·exact ho
   ·rename_i x hx
    have hxo:=h.works x (List.mem_of_getElem? hx)
    split
    ·exact ho
    ·split
     ·exact ho.rest rfl rfl
     ·have h3:Fine (N+1) {s with answers:=s.answers++ [⟨0,0,0,true⟩]}:=h.reans (by have:=h.alen;simp;omega) (by simp) (fun a ha=>by
       rcases List.mem_append.1 ha with e|e
       ·exact(h.ans a e).more (Nat.le_succ N)
       ·rw[List.mem_singleton.1 e];exact⟨by dsimp only;omega,by dsimp only;omega,by dsimp only;omega⟩) (Nat.le_succ N)
      have hsn:=hxo.sent
      have hcm:=hxo.came
      have h4:=h3.noted (a:=x.sent) (b:=x.came) true (by omega) (by omega)
      have hne:(notedS {s with answers:=s.answers++ [⟨0,0,0,true⟩]} x.sent x.came true).answers≠ []:=by
       unfold notedS
       split<;>simp
      have hwl:(notedS {s with answers:=s.answers++ [⟨0,0,0,true⟩]} x.sent x.came true).W.length=s.W.length:=by
       unfold notedS
       split<;>rfl
      have hon:Even 0 (notedS {s with answers:=s.answers++ [⟨0,0,0,true⟩]} x.sent x.came true):=by
       unfold notedS
       split<;>exact ho.rest rfl rfl
      refine Even.waves (List.range' 1 (s.W.length - 1)) (N+1+1) _ hon h4 hne (fun k hk=> ?_)
      rw[hwl]
      have:=List.mem_range'_1.1 hk
      omega
theorem Even.new(workers room mode kind arg:Int)(ks:List KindS):Even 0 (newS workers room mode ks kind arg):=by
 have e:∀n:Nat,((List.replicate n worker0).map fun x=>x.sent - x.came).sum=0:=fun n=>by
  induction n with
  |zero=>rfl
  |succ n ih=>rw[List.replicate_succ,List.map_cons,List.sum_cons,ih];rfl
 have e2:∀n:Nat,((List.replicate n link0).map (linkSum works)).sum=0:=fun n=>by
  induction n with
  |zero=>rfl
  |succ n ih=>rw[List.replicate_succ,List.map_cons,List.sum_cons,ih];rfl
 have e3:∀n k:Nat,((List.replicate n (List.replicate k link0)).map fun ls=>(ls.map (linkSum works)).sum).sum=0:=fun n k=>by
  induction n with
  |zero=>rfl
  |succ n ih=>rw[List.replicate_succ,List.map_cons,List.sum_cons,ih,e2]
 refine⟨?_⟩
 unfold bal total newS
 dsimp only
 rw[List.map_cons,List.sum_cons,e,e3]
 rfl
structure Same(s s':RunS):Prop where
 W:s'.W=s.W
 answers:s'.answers=s.answers
 done:s'.done=s.done
 mode:s'.mode=s.mode
 workers:s'.workers=s.workers
 values:s'.values=s.values
 ks:s'.ks=s.ks
 around:s'.around=s.around
 links:∀i j,(linkOf s' i j).all=(linkOf s i j).all/\(linkOf s' i j).came=(linkOf s i j).came
 shape:s'.links.length=s.links.length/\∀f,total f s'=total f s
theorem Same.refl(s:RunS):Same s s:=⟨rfl,rfl,rfl,rfl,rfl,rfl,rfl,rfl,fun _ _=>⟨rfl,rfl⟩,rfl,fun _=>rfl⟩
theorem Same.trans{a b c:RunS}(h:Same a b)(k:Same b c):Same a c:=
 ⟨k.W.trans h.W,k.answers.trans h.answers,k.done.trans h.done,k.mode.trans h.mode,k.workers.trans h.workers,k.values.trans h.values,k.ks.trans h.ks,k.around.trans h.around,fun i j=>⟨(k.links i j).1.trans (h.links i j).1,(k.links i j).2.trans (h.links i j).2⟩,k.shape.1.trans h.shape.1,fun f=>(k.shape.2 f).trans (h.shape.2 f)⟩
theorem Same.of_way(s:RunS)(y:List MsgS):Same s {s with way:=y}:=⟨rfl,rfl,rfl,rfl,rfl,rfl,rfl,rfl,fun _ _=>⟨rfl,rfl⟩,rfl,fun f=>total_congr f rfl⟩
theorem Same.put(s:RunS)(m:MsgS):Same s (wayS s m):=by
 unfold wayS
 split
 ·exact Same.of_way s _
 ·exact Same.refl s
theorem Same.relink{N:Nat}{s:RunS}(h:Fine N s){i j:Nat}(hi:i < s.W.length)(hj:j < s.W.length){l:LinkS}(ha:l.all=(linkOf s i j).all)(hc:l.came=(linkOf s i j).came):Same s (setLink s i j l):=by
 refine⟨rfl,rfl,rfl,rfl,rfl,rfl,rfl,rfl,fun a b=> ?_,by show(s.links.set i _).length=_;rw[List.length_set],fun f=> ?_⟩
 ·rw[linkOf_set l h.llen h.lrow hi hj a b]
  split
  ·rename_i e
   obtain⟨rfl,rfl⟩:=e
   exact⟨ha,hc⟩
  ·exact⟨rfl,rfl⟩
 ·have h1:=total_set f l h.llen h.lrow hi hj
  have h2:linkSum f l=linkSum f (linkOf s i j):=by
   unfold linkSum
   rw[ha,hc]
  omega
theorem next_msg{N:Nat}{s:RunS}(h:Fine N s){i j:Nat}(hi:i < s.W.length)(hj:j < s.W.length)(hb:nextB (linkOf s i j)=true):∃m,(linkOf s i j).all[(linkOf s i j).came.toNat]?= some m/\MsgOK s.ks (s.answers≠ []) N i j (linkOf s i j).came.toNat m/\Fine N (setLink s i j {linkOf s i j with came:=(linkOf s i j).came+1})/\stepS s i j=cameS (setLink s i j {linkOf s i j with came:=(linkOf s i j).came+1}) m:=by
 have hl:=h.links i j hi hj
 have hmem:(linkOf s i j).came+1∈(linkOf s i j).kept:=by
  unfold nextB at hb
  obtain⟨y,hy,hye⟩:=List.any_eq_true.1 hb
  have:y=(linkOf s i j).came+1:=by simpa using hye
  rw[<-this];exact hy
 have hk:=hl.kept _ hmem
 have hc:=hl.came
 have hs1:Fine N (setLink s i j {linkOf s i j with came:=(linkOf s i j).came+1}):=h.relink hi hj (L:=[]) (by simp) ⟨hl.msgs,hl.all,hl.known,by dsimp only;omega,fun n hn=>by have:=hl.kept n hn;dsimp only;omega,hl.klen⟩ (Nat.le_refl _)
 have hg:(linkOf s i j).all[(linkOf s i j).came.toNat]?= some ((linkOf s i j).all[(linkOf s i j).came.toNat]'(by omega)):=List.getElem?_eq_getElem _
 refine⟨_,hg,hl.msgs _ _ hg,hs1,?_⟩
 unfold stepS
 rw[hg,Option.getD_some]
section
variable {P:RunS->Prop} (hsame:∀s s',Same s s'->P s->P s')
 (hstep:∀N s i j m,Fine N s->N<=90000000->i < s.W.length->j < s.W.length->(linkOf s i j).all[(linkOf s i j).came.toNat]?= some m->MsgOK s.ks (s.answers≠ []) N i j (linkOf s i j).came.toNat m->Fine N (setLink s i j {linkOf s i j with came:=(linkOf s i j).came+1})->P s->P (cameS (setLink s i j {linkOf s i j with came:=(linkOf s i j).came+1}) m))
include hstep in
theorem come_ind{i j:Nat}:∀(f d N:Nat) (s:RunS),P s->Fine N s->i < s.W.length->j < s.W.length->N+d<=90000000->(∀n∈(linkOf s i j).kept,n<=(linkOf s i j).came+d)->P (comeS f s i j):=by
 intro f
 induction f with
 |zero=>intro d N s ho _ _ _ _ _;exact ho
 |succ f ih=>
  intro d N s ho h hi hj hN hd
  unfold comeS
  split
  ·rename_i hb
   obtain⟨h1,h2,h3,h4⟩:=h.step (by omega) hi hj hb
   have hd1:=hd _ h4
   obtain⟨m,hm1,hm2,hm3,hm4⟩:=next_msg h hi hj hb
   refine ih (d - 1) (N+1) _ ?_ h1 (by omega) (by omega) (by omega) (fun n hn=>by rw[h2]at hn ⊢;have:=hd n hn;dsimp only;omega)
   rw[hm4]
   exact hstep N s i j m h (by omega) hi hj hm1 hm2 hm3 ho
  ·exact ho
include hsame hstep in
theorem deliver_ind{N:Nat}{s:RunS}(ho:P s)(h:Fine N s)(hN:N+5<=90000000)(k:Int):P (deliverS s k).1:=by
 unfold deliverS
 split
 ·exact ho
 ·rename_i hme
  obtain⟨h0,h1⟩:=messageE_range hme
  have hg:s.way[k.toNat]?= some (s.way[k.toNat]'(by omega)):=List.getElem?_eq_getElem _
  have hw:=h.ways _ (List.mem_of_getElem? hg)
  rw[hg]
  dsimp only[Option.getD_some]
  generalize s.way[k.toNat]=m at hw ⊢
  have hu:=h.unway k.toNat
  have hou:P {s with way:=s.way.take k.toNat++s.way.drop (k.toNat+1)}:=hsame _ _ (Same.of_way s _) ho
  obtain⟨hsl,hse⟩:=h.nat hw.src.1 hw.src.2
  obtain⟨hdl,hde⟩:=h.nat hw.dst.1 hw.dst.2
  split
  ·split
   ·exact hsame _ _ (Same.relink hu hdl hsl (l:={linkOf {s with way:=s.way.take k.toNat++s.way.drop (k.toNat+1)} m.dst.toNat m.src.toNat with known:=m.no}) rfl rfl) hou
   ·exact hou
  ·rename_i hk0
   obtain⟨n,hn,hne⟩:=hw.sent hk0
   have hnl:=(List.getElem?_eq_some_iff.1 hne).1
   have hkp:=hu.keep hsl hdl (n:=m.no) (by rw[hn];show(n:Int)+1<=((linkOf s m.src.toNat m.dst.toNat).all.length:Int);omega)
   have hok:P (setLink {s with way:=s.way.take k.toNat++s.way.drop (k.toNat+1)} m.src.toNat m.dst.toNat (keepS (linkOf {s with way:=s.way.take k.toNat++s.way.drop (k.toNat+1)} m.src.toNat m.dst.toNat) m.no)):=hsame _ _ (Same.relink hu hsl hdl (by
    unfold keepS
    split<;>rfl) (by
    unfold keepS
    split<;>rfl)) hou
   exact hsame _ _ (Same.put _ _) (come_ind hstep _ 4 _ _ hok hkp hsl hdl (by omega) (fun a ha=>((hkp.links _ _ hsl hdl).kept a ha).2.2))
end
theorem Same.drop(s:RunS)(k:Int):Same s (dropS s k).1:=by
 unfold dropS
 split
 ·exact Same.refl s
 ·exact Same.of_way s _
theorem Same.twice(s:RunS)(k:Int):Same s (twiceS s k).1:=by
 unfold twiceS
 split
 ·exact Same.refl s
 ·exact Same.put s _
theorem Same.tick(s:RunS)(i:Int):Same s (tickS s i).1:=by
 unfold tickS
 split
 ·exact Same.refl s
 ·have:∀(L:List LinkS) (s:RunS),Same s (L.foldl againS s):=by
   intro L
   induction L with
   |nil=>exact fun s=>Same.refl s
   |cons l L ih=>
    intro s
    obtain⟨y,hy,-⟩:=againS_eq s l
    rw[List.foldl_cons,hy]
    exact(Same.of_way s y).trans (ih _)
  exact this _ s
end Go.Proofs.YtfanaanofjhlkaaGreatDoor
