import Derived.Test.YtfanaanofjhlkaaGreatDoorCalm
namespace Go.Proofs.YtfanaanofjhlkaaGreatDoor
open Go Go.RowKit
structure Own(T:TaskS->Prop)(s:RunS):Prop where
 tasks:∀x∈s.W,∀t∈x.tasks,T t
 grants:∀(i j:Nat),∀m∈(linkOf s i j).all,m.kind=2->T m.t
 results:∀(i j:Nat),∀m∈(linkOf s i j).all,m.kind=4->∃t,T t/\m.v=(t.id,valueOf s.ks t)
 vals:∀v∈s.values,∃t,T t/\v=(t.id,valueOf s.ks t)
theorem sendS_all(s:RunS)(m:MsgS)(hl:s.links.length=s.W.length)(hr:∀ls∈s.links,ls.length=s.W.length)(hi:m.src.toNat < s.W.length)(hj:m.dst.toNat < s.W.length)(a b:Nat):∀m'∈(linkOf (sendS s m) a b).all,m'∈(linkOf s a b).all\/∃n,m'={m with no:=n}:=by
 intro m' hm
 by_cases h:a=m.src.toNat/\b=m.dst.toNat
 ·obtain⟨rfl,rfl⟩:=h
  have e:linkOf (sendS s m) m.src.toNat m.dst.toNat=linkOf (setLink s m.src.toNat m.dst.toNat {linkOf s m.src.toNat m.dst.toNat with all:=(linkOf s m.src.toNat m.dst.toNat).all++ [{m with no:=(linkOf s m.src.toNat m.dst.toNat).all.length+1}]}) m.src.toNat m.dst.toNat:=by
   have e1:(sendS s m).links=(setLink s m.src.toNat m.dst.toNat {linkOf s m.src.toNat m.dst.toNat with all:=(linkOf s m.src.toNat m.dst.toNat).all++ [{m with no:=(linkOf s m.src.toNat m.dst.toNat).all.length+1}]}).links:=by
    unfold sendS wayS
    dsimp only
    split<;>split<;>rfl
   show((sendS s m).links[m.src.toNat]?.getD [])[m.dst.toNat]?.getD link0=_
   rw[e1]
   rfl
  rw[e,linkOf_set _ hl hr hi hj,if_pos ⟨rfl,rfl⟩]at hm
  rcases List.mem_append.1 hm with h|h
  ·exact .inl h
  ·exact .inr ⟨_,List.mem_singleton.1 h⟩
 ·rw[sendS_link s m hl hr hi hj h]at hm
  exact .inl hm
theorem Own.send{T:TaskS->Prop}{N:Nat}{s:RunS}(ho:Own T s)(h:Fine N s){m:MsgS}(hi:m.src.toNat < s.W.length)(hj:m.dst.toNat < s.W.length)(h2:m.kind=2->T m.t)(h4:m.kind=4->∃t,T t/\m.v=(t.id,valueOf s.ks t)):Own T (sendS s m):=by
 obtain⟨-,-,hk⟩:=sendS_rest s m
 refine⟨fun x hx t ht=> ?_,fun i j m' hm e=> ?_,fun i j m' hm e=> ?_,fun v hv=> ?_⟩
 ·obtain⟨k,hk,rfl⟩:=List.mem_iff_getElem.1 hx
  obtain⟨y,hy,-,e⟩:=sendS_get s m (List.getElem?_eq_getElem hk)
  rw[e]at ht
  exact ho.tasks y (List.mem_of_getElem? hy) t ht
 ·rcases sendS_all s m h.llen h.lrow hi hj i j m' hm with h'|⟨n,rfl⟩
  ·exact ho.grants i j m' h' e
  ·exact h2 e
 ·rw[hk]
  rcases sendS_all s m h.llen h.lrow hi hj i j m' hm with h'|⟨n,rfl⟩
  ·exact ho.results i j m' h' e
  ·exact h4 e
 ·rw[hk]
  rw[(sendS_tasks (fun _=>0) s m hi).2]at hv
  exact ho.vals v hv
theorem Own.reworker{T:TaskS->Prop}{s:RunS}(ho:Own T s)(i:Nat){x:WorkerS}(hx:∀t∈x.tasks,T t):Own T {s with W:=s.W.set i x}:=
 ⟨fun y hy t ht=>by
  rcases List.mem_or_eq_of_mem_set hy with e|rfl
  ·exact ho.tasks y e t ht
  ·exact hx t ht,ho.grants,ho.results,ho.vals⟩
theorem Own.relink{T:TaskS->Prop}{N:Nat}{s:RunS}(ho:Own T s)(h:Fine N s){i j:Nat}(hi:i < s.W.length)(hj:j < s.W.length){l:LinkS}(hl:l.all=(linkOf s i j).all):Own T (setLink s i j l):=by
 have e:∀a b,(linkOf (setLink s i j l) a b).all=(linkOf s a b).all:=fun a b=>by
  rw[linkOf_set _ h.llen h.lrow hi hj]
  split
  ·rename_i e
   rw[e.1,e.2];exact hl
  ·rfl
 exact⟨ho.tasks,fun a b m hm=>ho.grants a b m (by rw[<-e a b];exact hm),fun a b m hm=>ho.results a b m (by rw[<-e a b];exact hm),ho.vals⟩
theorem Own.rest{T:TaskS->Prop}{s s':RunS}(ho:Own T s)(h1:s'.W=s.W)(h2:s'.links=s.links)(h3:s'.values=s.values)(h4:s'.ks=s.ks):Own T s':=by
 have e:∀a b,linkOf s' a b=linkOf s a b:=fun a b=>by
  unfold linkOf
  rw[h2]
 exact⟨fun x hx=>ho.tasks x (by rw[<-h1];exact hx),fun a b m hm=>ho.grants a b m (by rw[<-e a b];exact hm),fun a b m hm=>by rw[h4];exact ho.results a b m (by rw[<-e a b];exact hm),fun v hv=>by rw[h4];exact ho.vals v (by rw[<-h3];exact hv)⟩
theorem putS_mem:∀(l:List (ByteArray×Int)) (x v:ByteArray×Int),v∈putS l x->v∈l\/v=x
 |[],x,v,h=> .inr (by simpa[putS]using h)
 |y :: r,x,v,h=>by
  unfold putS at h
  split at h
  ·rcases List.mem_cons.1 h with e|e
   ·exact .inr e
   ·exact .inl e
  ·rcases List.mem_cons.1 h with e|e
   ·exact .inl (by rw[e];exact List.mem_cons_self ..)
   ·rcases putS_mem r x v e with e'|e'
    ·exact .inl (List.mem_cons_of_mem _ e')
    ·exact .inr e'
theorem Own.revals{T:TaskS->Prop}{s:RunS}(ho:Own T s){x:ByteArray×Int}(hx:∃t,T t/\x=(t.id,valueOf s.ks t)):Own T {s with values:=putS s.values x}:=
 ⟨ho.tasks,ho.grants,ho.results,fun v hv=>by
  rcases putS_mem _ _ _ hv with e|e
  ·exact ho.vals v e
  ·rw[e];exact hx⟩
theorem Own.came{T:TaskS->Prop}{N:Nat}{s:RunS}{i j n:Nat}{m:MsgS}(ho:Own T s)(h:Fine N s)(hi:i < s.W.length)(hj:j < s.W.length)(hm:MsgOK s.ks (s.answers≠ []) N i j n m)(h2:m.kind=2->T m.t)(h4:m.kind=4->∃t,T t/\m.v=(t.id,valueOf s.ks t)):Own T (cameS s m):=by
 have hs0:=hm.src
 have hd0:=hm.dst
 have hx:s.W[m.dst.toNat]?= some (s.W[m.dst.toNat]'(by omega)):=List.getElem?_eq_getElem _
 unfold cameS
 dsimp only
 rw[hx,Option.getD_some]
 generalize s.W[m.dst.toNat]'_=x at hx ⊢
 have hxo:=h.works x (List.mem_of_getElem? hx)
 have hxt:=ho.tasks x (List.mem_of_getElem? hx)
 split
 ·split
  ·exact ho.send h (by show m.dst.toNat < _;omega) (by show m.src.toNat < _;omega) (fun e=>by simp at e) (fun e=>by simp at e)
  ·rename_i t r ht
   have hwk:WorkerOK s.ks N {x with tasks:=r}:=⟨by have:=hxo.few;rw[ht]at this;simp at this;dsimp only;omega,fun c hc=>hxo.good c (by rw[ht];exact List.mem_cons_of_mem _ hc),hxo.sent,hxo.came,hxo.tok⟩
   exact(ho.reworker m.dst.toNat (x:={x with tasks:=r}) (fun c hc=>hxt c (by rw[ht];exact List.mem_cons_of_mem _ hc))).send (h.reworker m.dst.toNat hwk (Nat.le_refl _)) (by show m.dst.toNat < _;simp;omega) (by show m.src.toNat < _;simp;omega) (fun _=>hxt t (by rw[ht];exact List.mem_cons_self ..)) (fun e=>by simp at e)
 ·split
  ·rename_i hk
   exact ho.reworker _ (fun c hc=>by
    rcases List.mem_append.1 hc with e|e
    ·exact hxt c e
    ·rw[List.mem_singleton.1 e];exact h2 hk)
  ·split
   ·exact ho.reworker _ hxt
   ·split
    ·rename_i hk
     exact(ho.reworker m.dst.toNat (x:={x with came:=x.came+1,black:=true}) hxt).revals (h4 hk)
    ·split
     ·exact(ho.reworker m.dst.toNat (x:={x with has:=true,token:=m}) hxt).rest rfl rfl rfl rfl
     ·split
      ·exact ho.send h (by show m.dst.toNat < _;omega) (by show(0:Int).toNat < _;simp;omega) (fun e=>by simp at e) (fun e=>by simp at e)
      ·split
       ·unfold notedS
        split
        ·exact ho
        ·exact ho.rest rfl rfl rfl rfl
       ·exact ho
theorem Own.step{T:TaskS->Prop}{N:Nat}{s:RunS}(ho:Own T s)(h:Fine N s){i j:Nat}(hi:i < s.W.length)(hj:j < s.W.length)(hb:nextB (linkOf s i j)=true):Own T (stepS s i j):=by
 have hl:=h.links i j hi hj
 have hmem:(linkOf s i j).came+1∈(linkOf s i j).kept:=by
  unfold nextB at hb
  obtain⟨y,hy,hye⟩:=List.any_eq_true.1 hb
  have:y=(linkOf s i j).came+1:=by simpa using hye
  rw[<-this];exact hy
 have hk:=hl.kept _ hmem
 have hc:=hl.came
 have hs1:Fine N (setLink s i j {linkOf s i j with came:=(linkOf s i j).came+1}):=h.relink hi hj (L:=[]) (by simp) ⟨hl.msgs,hl.all,hl.known,by dsimp only;omega,fun n hn=>by have:=hl.kept n hn;dsimp only;omega,hl.klen⟩ (Nat.le_refl _)
 have hg:(linkOf s i j).all[(linkOf s i j).came.toNat]?= some ((linkOf s i j).all[(linkOf s i j).came.toNat]'(by omega)):=List.getElem?_eq_getElem _
 have hm:=hl.msgs _ _ hg
 have hin:=List.mem_of_getElem? hg
 unfold stepS
 rw[hg,Option.getD_some]
 exact Own.came (ho.relink h hi hj rfl) hs1 hi hj hm (ho.grants i j _ hin) (ho.results i j _ hin)
theorem Own.come{T:TaskS->Prop}{i j:Nat}:∀(f d N:Nat) (s:RunS),Own T s->Fine N s->i < s.W.length->j < s.W.length->N+d<=90000000->(∀n∈(linkOf s i j).kept,n<=(linkOf s i j).came+d)->Own T (comeS f s i j):=by
 intro f
 induction f with
 |zero=>intro d N s ho _ _ _ _ _;exact ho
 |succ f ih=>
  intro d N s ho h hi hj hN hd
  unfold comeS
  split
  ·rename_i hb
   obtain⟨h1,h2,h3,h4⟩:=h.step (by omega) hi hj hb
   have hd1:=hd _ h4
   exact ih (d - 1) (N+1) _ (ho.step h hi hj hb) h1 (by omega) (by omega) (by omega) (fun n hn=>by rw[h2]at hn ⊢;have:=hd n hn;dsimp only;omega)
  ·exact ho
theorem wayS_ks(s:RunS)(m:MsgS):(wayS s m).ks=s.ks:=by
 unfold wayS
 split<;>rfl
theorem Own.way{T:TaskS->Prop}{s:RunS}(ho:Own T s)(m:MsgS):Own T (wayS s m):=ho.rest (wayS_rest s m).2.1 (wayS_rest s m).1 (wayS_rest s m).2.2 (wayS_ks s m)
theorem Own.deliver{T:TaskS->Prop}{N:Nat}{s:RunS}(ho:Own T s)(h:Fine N s)(hN:N+5<=90000000)(k:Int):Own T (deliverS s k).1:=by
 unfold deliverS
 split
 ·exact ho
 ·rename_i hme
  obtain⟨h0,h1⟩:=messageE_range hme
  have hg:s.way[k.toNat]?= some (s.way[k.toNat]'(by omega)):=List.getElem?_eq_getElem _
  have hw:=h.ways _ (List.mem_of_getElem? hg)
  rw[hg]
  dsimp only[Option.getD_some]
  generalize s.way[k.toNat]=m at hw ⊢
  have hu:=h.unway k.toNat
  have hou:Own T {s with way:=s.way.take k.toNat++s.way.drop (k.toNat+1)}:=ho.rest rfl rfl rfl rfl
  obtain⟨hsl,hse⟩:=h.nat hw.src.1 hw.src.2
  obtain⟨hdl,hde⟩:=h.nat hw.dst.1 hw.dst.2
  split
  ·split
   ·exact hou.relink hu hdl hsl (l:={linkOf {s with way:=s.way.take k.toNat++s.way.drop (k.toNat+1)} m.dst.toNat m.src.toNat with known:=m.no}) rfl
   ·exact hou
  ·rename_i hk0
   obtain⟨n,hn,hne⟩:=hw.sent hk0
   have hnl:=(List.getElem?_eq_some_iff.1 hne).1
   have hkp:=hu.keep hsl hdl (n:=m.no) (by rw[hn];show(n:Int)+1<=((linkOf s m.src.toNat m.dst.toNat).all.length:Int);omega)
   have hok:Own T (setLink {s with way:=s.way.take k.toNat++s.way.drop (k.toNat+1)} m.src.toNat m.dst.toNat (keepS (linkOf {s with way:=s.way.take k.toNat++s.way.drop (k.toNat+1)} m.src.toNat m.dst.toNat) m.no)):=hou.relink hu hsl hdl (by
    unfold keepS
    split<;>rfl)
   exact(Own.come _ 4 _ _ hok hkp hsl hdl (by omega) (fun a ha=>((hkp.links _ _ hsl hdl).kept a ha).2.2)).way _
theorem Own.steal{T:TaskS->Prop}{N:Nat}{s:RunS}(ho:Own T s)(h:Fine N s)(i v:Int):Own T (stealS s i v).1:=by
 unfold stealS
 split
 ·exact ho
 ·rename_i hi
  split
  ·exact ho
  ·rename_i hv
   split
   ·exact ho
   ·obtain⟨hi0,hi1⟩:=workerE_range hi
    obtain⟨hv0,hv1⟩:=workerE_range hv
    obtain⟨hil,hie⟩:=h.nat hi0 hi1
    obtain⟨hvl,hve⟩:=h.nat hv0 hv1
    split
    ·exact ho
    ·rename_i x hx
     have hxo:=h.works x (List.mem_of_getElem? hx)
     split
     ·exact ho
     ·exact(ho.reworker i.toNat (x:={x with asked:=true}) (ho.tasks x (List.mem_of_getElem? hx))).send (h.reworker i.toNat (x:={x with asked:=true}) ⟨hxo.few,hxo.good,hxo.sent,hxo.came,hxo.tok⟩ (Nat.le_refl _)) (by simpa using hil) (by simpa using hvl) (fun e=>by simp at e) (fun e=>by simp at e)
theorem Own.work{T:TaskS->Prop}{N:Nat}{s:RunS}(ho:Own T s)(h:Fine N s)(hT:∀t,T t->∀c∈children s.ks t,T c)(i:Int):Own T (workS s i).1:=by
 unfold workS
 split
 ·exact ho
 ·rename_i hw
  obtain⟨h0,hlt⟩:=workerE_range hw
  obtain⟨hil,hie⟩:=h.nat h0 hlt
  split
  ·exact ho
  ·rename_i x hx
   have hxo:=h.works x (List.mem_of_getElem? hx)
   have hxt:=ho.tasks x (List.mem_of_getElem? hx)
   split
   ·exact ho
   ·rename_i t ht
    have htm:t∈x.tasks:=List.mem_of_getLast? ht
    split
    ·exact ho.rest rfl rfl rfl rfl
    ·rename_i hroom
     have ho1:Own T {s with W:=s.W.set i.toNat {x with tasks:=x.tasks.dropLast++children s.ks t}}:=ho.reworker _ (fun c hc=>by
      rcases List.mem_append.1 hc with e|e
      ·exact hxt c ((List.dropLast_sublist _).subset e)
      ·exact hT t (hxt t htm) c e)
     dsimp only
     split
     ·exact ho1.revals ⟨t,hxt t htm,rfl⟩
     ·have hne:x.tasks.length≠0:=fun e=>by rw[List.length_eq_zero_iff]at e;rw[e]at htm;simp at htm
      have hwk:WorkerOK s.ks N {x with tasks:=x.tasks.dropLast++children s.ks t}:=by
       refine⟨?_,fun c hc=> ?_,hxo.sent,hxo.came,hxo.tok⟩
       ·have:=h.rmax
        simp
        omega
       ·rcases List.mem_append.1 hc with e|e
        ·exact hxo.good c ((List.dropLast_sublist _).subset e)
        ·exact childrenFrom_good h.prog (hxo.good t htm) c e
      have h2:=h.two
      have hlen:=h.len
      exact ho1.send (h.reworker i.toNat hwk (Nat.le_refl _)) (by simpa using hil) (by simp;omega) (fun e=>by simp at e) (fun _=>⟨t,hxt t htm,rfl⟩)
theorem Own.drop{T:TaskS->Prop}{s:RunS}(ho:Own T s)(k:Int):Own T (dropS s k).1:=by
 unfold dropS
 split
 ·exact ho
 ·exact ho.rest rfl rfl rfl rfl
theorem Own.twice{T:TaskS->Prop}{s:RunS}(ho:Own T s)(k:Int):Own T (twiceS s k).1:=by
 unfold twiceS
 split
 ·exact ho
 ·exact ho.way _
theorem Own.tick{T:TaskS->Prop}{s:RunS}(ho:Own T s)(i:Int):Own T (tickS s i).1:=by
 unfold tickS
 split
 ·exact ho
 ·have key:∀(L:List LinkS) (s:RunS),Own T s->Own T (L.foldl againS s):=by
   intro L
   induction L with
   |nil=>intro s h;exact h
   |cons l r ih=>
    intro s h
    rw[List.foldl_cons]
    refine ih _ ?_
    unfold againS
    split
    ·exact h.way _
    ·exact h
  exact key _ _ ho
theorem Own.pass{T:TaskS->Prop}{N:Nat}{s:RunS}(ho:Own T s)(h:Fine N s)(i:Int):Own T (passS s i).1:=by
 unfold passS
 split
 ·exact ho
 ·rename_i hw
  obtain⟨h0,hlt⟩:=workerE_range hw
  obtain⟨hil,hie⟩:=h.nat h0 hlt
  split
  ·exact ho
  ·rename_i x hx
   split
   ·exact ho
   ·rename_i hc
    have hi0:i≠0:=fun e=>hc (.inr (.inl e))
    dsimp only
    exact(ho.send h (m:={msg0 with src:=i,dst:=i - 1,kind:=5,count:=x.token.count+x.sent - x.came,black:=x.token.black||x.black}) hil (by show(i - 1).toNat < _;omega) (fun e=>by simp at e) (fun e=>by simp at e)).reworker i.toNat (ho.tasks x (List.mem_of_getElem? hx))
theorem Own.waves{T:TaskS->Prop}{n:Int}:∀(L:List Nat) (N:Nat) (s:RunS),Own T s->Fine N s->s.answers≠ []->(∀k∈L,1<=k/\k < s.W.length)->Own T (L.foldl (waveS n) s):=by
 intro L
 induction L with
 |nil=>intro N s ho h _ _;exact ho
 |cons k r ih=>
  intro N s ho h ha hL
  have hk:=hL k (List.mem_cons_self ..)
  obtain⟨e1,e2,-⟩:=sendS_rest s {msg0 with src:=0,dst:=k,kind:=6,round:=n}
  have hs:Fine (N+1) (waveS n s k):=h.waves [k] _ _ ha (fun a b=>by rw[List.mem_singleton.1 b];exact hk)
  have hos:Own T (waveS n s k):=ho.send h (by show(0:Int).toNat < _;simp;omega) (by show(k:Int).toNat < _;simp;omega) (fun e=>by simp at e) (fun e=>by simp at e)
  rw[List.foldl_cons]
  exact ih (N+1) (waveS n s k) hos hs (by show(sendS _ _).answers≠ [];rw[e1];exact ha) (fun a b=>by show 1<=a/\a < (sendS _ _).W.length;rw[e2];exact hL a (List.mem_cons_of_mem _ b))
theorem Own.check{T:TaskS->Prop}{N:Nat}{s:RunS}(ho:Own T s)(h:Fine N s)(hN:N<=1000000000):Own T (checkS s).1:=by
 have h2:=h.two
 have hl:=h.len
 unfold checkS
 split
 ·exact ho
 ·split
  ·unfold ringS
   split
   ·exact ho
   ·rename_i x hx
    have hxo:=h.works x (List.mem_of_getElem? hx)
    split
    ·exact ho
    ·split
     ·exact ho.rest rfl rfl rfl rfl
     ·exact(ho.reworker 0 (x:={x with black:=false,has:=false}) (ho.tasks x (List.mem_of_getElem? hx))).send (h.reworker 0 (x:={x with black:=false,has:=false}) ⟨hxo.few,hxo.good,hxo.sent,hxo.came,hxo.tok⟩ (Nat.le_refl _)) (by show(0:Int).toNat < _;simp;omega) (by show(s.workers - 1).toNat < _;simp;omega) (fun e=>by simp at e) (fun e=>by simp at e)
  ·unfold wavesS
   split
   ·exact ho
   ·rename_i x hx
    have hxo:=h.works x (List.mem_of_getElem? hx)
    split
    ·exact ho
    ·split
     ·exact ho.rest rfl rfl rfl rfl
     ·have h3:Fine (N+1) {s with answers:=s.answers++ [⟨0,0,0,true⟩]}:=h.reans (by have:=h.alen;simp;omega) (by simp) (fun a ha=>by
       rcases List.mem_append.1 ha with e|e
       ·exact(h.ans a e).more (Nat.le_succ N)
       ·rw[List.mem_singleton.1 e];exact⟨by dsimp only;omega,by dsimp only;omega,by dsimp only;omega⟩) (Nat.le_succ N)
      have hsn:=hxo.sent
      have hcm:=hxo.came
      have h4:=h3.noted (a:=x.sent) (b:=x.came) true (by omega) (by omega)
      have hne:(notedS {s with answers:=s.answers++ [⟨0,0,0,true⟩]} x.sent x.came true).answers≠ []:=by
       unfold notedS
       split<;>simp
      have hwl:(notedS {s with answers:=s.answers++ [⟨0,0,0,true⟩]} x.sent x.came true).W.length=s.W.length:=by
       unfold notedS
       split<;>rfl
      have hon:Own T (notedS {s with answers:=s.answers++ [⟨0,0,0,true⟩]} x.sent x.came true):=by
       unfold notedS
       split<;>exact ho.rest rfl rfl rfl rfl
      refine Own.waves (List.range' 1 (s.W.length - 1)) (N+1+1) _ hon h4 hne (fun k hk=> ?_)
      rw[hwl]
      have:=List.mem_range'_1.1 hk
      omega
theorem Own.new{T:TaskS->Prop}{workers room mode kind arg:Int}{ks:List KindS}(h:T ⟨⟨#[]⟩,kind,arg⟩):Own T (newS workers room mode ks kind arg):=by
 have hl:∀(i j:Nat),(linkOf (newS workers room mode ks kind arg) i j).all=[]:=fun i j=>by
  unfold linkOf newS
  dsimp only
  by_cases hi:i < workers.toNat
  ·by_cases hj:j < workers.toNat
   ·simp[hi,hj,link0]
   ·simp[hi,hj,link0]
  ·simp[hi,link0]
 refine⟨fun x hx t ht=> ?_,fun i j m hm=>by rw[hl]at hm;simp at hm,fun i j m hm=>by rw[hl]at hm;simp at hm,fun v hv=>by simp[newS]at hv⟩
 rcases List.mem_cons.1 hx with e|e
 ·subst e
  simp at ht
  subst ht
  exact h
 ·rw[List.eq_of_mem_replicate e]at ht
  simp[worker0]at ht
theorem isum_set{α:Type}(g:α->Int):∀(l:List α) (i:Nat) (x y:α),l[i]?= some y->((l.set i x).map g).sum+g y=(l.map g).sum+g x
 |[],i,x,y,h=>by simp at h
 |a :: r,0,x,y,h=>by
  simp at h
  subst h
  simp
  omega
 |a :: r,i+1,x,y,h=>by
  have:=isum_set g r i x y (by simpa using h)
  rw[List.set_cons_succ,List.map_cons,List.map_cons,List.sum_cons,List.sum_cons]
  omega
def works(m:MsgS):Nat:=if m.kind=2\/m.kind=4 then 1 else 0
def bal(s:RunS):Int:=(s.W.map fun x=>x.sent - x.came).sum
theorem bal_set{s:RunS}{i:Nat}{x:WorkerS}(x':WorkerS)(hx:s.W[i]?= some x):bal {s with W:=s.W.set i x'}+(x.sent - x.came)=bal s+(x'.sent - x'.came):=isum_set (fun x:WorkerS=>x.sent - x.came) s.W i x' x hx
theorem bal_congr{s s':RunS}(h:s.W=s'.W):bal s=bal s':=by
 unfold bal
 rw[h]
theorem bal_send(s:RunS)(m:MsgS)(hi:m.src.toNat < s.W.length):bal (sendS s m)=bal s+works m:=by
 have hx:s.W[m.src.toNat]?= some (s.W[m.src.toNat]'hi):=List.getElem?_eq_getElem _
 by_cases hk:m.kind=2\/m.kind=4
 ·have e:=bal_set {s.W[m.src.toNat]?.getD worker0 with sent:=(s.W[m.src.toNat]?.getD worker0).sent+1} hx
  have hW:(sendS s m).W=s.W.set m.src.toNat {s.W[m.src.toNat]?.getD worker0 with sent:=(s.W[m.src.toNat]?.getD worker0).sent+1}:=by
   unfold sendS wayS
   simp only[if_pos hk]
   split<;>rfl
  have e2:bal (sendS s m)=bal {s with W:=s.W.set m.src.toNat {s.W[m.src.toNat]?.getD worker0 with sent:=(s.W[m.src.toNat]?.getD worker0).sent+1}}:=bal_congr hW
  have e3:s.W[m.src.toNat]?.getD worker0=s.W[m.src.toNat]'hi:=by rw[hx,Option.getD_some]
  rw[e2]
  simp only[works,if_pos hk]
  dsimp only at e
  rw[e3]at e ⊢
  omega
 ·rw[bal_congr (sendS_W s m hk)]
  simp[works,hk]
structure Even(e:Nat)(s:RunS):Prop where
 eq:bal s=(total works s:Int)+e
theorem Even.send{N:Nat}{s:RunS}{e:Nat}(hv:Even e s)(h:Fine N s){m:MsgS}(hi:m.src.toNat < s.W.length)(hj:m.dst.toNat < s.W.length):Even e (sendS s m):=by
 obtain⟨n,ht⟩:=total_send works h m hi hj
 have:works {m with no:=n}=works m:=rfl
 rw[this]at ht
 have hv:=hv.eq
 refine⟨?_⟩
 rw[bal_send s m hi,ht]
 omega
theorem Even.rest{s s':RunS}{e:Nat}(hv:Even e s)(h1:s'.W=s.W)(h2:s'.links=s.links):Even e s':=by
 refine⟨?_⟩
 rw[bal_congr h1,total_congr works h2]
 exact hv.eq
theorem Even.reworker{s:RunS}{e e':Nat}(hv:Even e s){i:Nat}{x x':WorkerS}(hx:s.W[i]?= some x)(h:x'.sent - x'.came+e=x.sent - x.came+(e':Int)):Even e' {s with W:=s.W.set i x'}:=by
 have h1:=bal_set x' hx
 have h2:total works {s with W:=s.W.set i x'}=total works s:=total_congr works rfl
 have hv:=hv.eq
 refine⟨?_⟩
 rw[h2]
 omega
theorem Even.came{N:Nat}{s:RunS}{i j n:Nat}{m:MsgS}(hv:Even (works m) s)(h:Fine N s)(hi:i < s.W.length)(hj:j < s.W.length)(hm:MsgOK s.ks (s.answers≠ []) N i j n m):Even 0 (cameS s m):=by
 have hs0:=hm.src
 have hd0:=hm.dst
 have hx:s.W[m.dst.toNat]?= some (s.W[m.dst.toNat]'(by omega)):=List.getElem?_eq_getElem _
 unfold cameS
 dsimp only
 rw[hx,Option.getD_some]
 generalize s.W[m.dst.toNat]'_=x at hx ⊢
 have hxo:=h.works x (List.mem_of_getElem? hx)
 split
 ·rename_i h1
  have w0:works m=0:=by simp[works,h1]
  rw[w0]at hv
  split
  ·exact hv.send h (by show m.dst.toNat < _;omega) (by show m.src.toNat < _;omega)
  ·rename_i t r ht
   have hwk:WorkerOK s.ks N {x with tasks:=r}:=⟨by have:=hxo.few;rw[ht]at this;simp at this;dsimp only;omega,fun c hc=>hxo.good c (by rw[ht];exact List.mem_cons_of_mem _ hc),hxo.sent,hxo.came,hxo.tok⟩
   exact(hv.reworker hx (x':={x with tasks:=r}) (e':=0) rfl).send (h.reworker m.dst.toNat hwk (Nat.le_refl _)) (by show m.dst.toNat < _;simp;omega) (by show m.src.toNat < _;simp;omega)
 ·split
  ·rename_i h2
   have w0:works m=1:=by simp[works,h2]
   rw[w0]at hv
   exact hv.reworker hx (by dsimp only;omega)
  ·rename_i h2
   split
   ·rename_i h3
    have w0:works m=0:=by simp[works,h3]
    rw[w0]at hv
    exact hv.reworker hx rfl
   ·split
    ·rename_i h4
     have w0:works m=1:=by simp[works,h4]
     rw[w0]at hv
     exact(hv.reworker hx (x':={x with came:=x.came+1,black:=true}) (e':=0) (by dsimp only;omega)).rest rfl rfl
    ·rename_i h4
     have w0:works m=0:=by simp[works,h2,h4]
     rw[w0]at hv
     split
     ·exact(hv.reworker hx (x':={x with has:=true,token:=m}) (e':=0) rfl).rest rfl rfl
     ·split
      ·exact hv.send h (by show m.dst.toNat < _;omega) (by show(0:Int).toNat < _;simp;omega)
      ·split
       ·unfold notedS
        split
        ·exact hv
        ·exact hv.rest rfl rfl
       ·exact hv
theorem Even.relink{N:Nat}{s:RunS}{e:Nat}(hv:Even e s)(h:Fine N s){i j:Nat}(hi:i < s.W.length)(hj:j < s.W.length){l:LinkS}(ha:l.all=(linkOf s i j).all)(hc:l.came=(linkOf s i j).came):Even e (setLink s i j l):=by
 have h1:=total_set works l h.llen h.lrow hi hj
 have h2:linkSum works l=linkSum works (linkOf s i j):=by
  unfold linkSum
  rw[ha,hc]
 have h3:bal (setLink s i j l)=bal s:=bal_congr rfl
 have hv:=hv.eq
 refine⟨?_⟩
 rw[h3]
 omega
theorem Even.step{N:Nat}{s:RunS}(hv:Even 0 s)(h:Fine N s){i j:Nat}(hi:i < s.W.length)(hj:j < s.W.length)(hb:nextB (linkOf s i j)=true):Even 0 (stepS s i j):=by
 have hl:=h.links i j hi hj
 have hmem:(linkOf s i j).came+1∈(linkOf s i j).kept:=by
  unfold nextB at hb
  obtain⟨y,hy,hye⟩:=List.any_eq_true.1 hb
  have:y=(linkOf s i j).came+1:=by simpa using hye
  rw[<-this];exact hy
 have hk:=hl.kept _ hmem
 have hc:=hl.came
 have hs1:Fine N (setLink s i j {linkOf s i j with came:=(linkOf s i j).came+1}):=h.relink hi hj (L:=[]) (by simp) ⟨hl.msgs,hl.all,hl.known,by dsimp only;omega,fun n hn=>by have:=hl.kept n hn;dsimp only;omega,hl.klen⟩ (Nat.le_refl _)
 have hg:(linkOf s i j).all[(linkOf s i j).came.toNat]?= some ((linkOf s i j).all[(linkOf s i j).came.toNat]'(by omega)):=List.getElem?_eq_getElem _
 have hm:=hl.msgs _ _ hg
 unfold stepS
 rw[hg,Option.getD_some]
 refine Even.came ?_ hs1 hi hj hm
 have h1:=total_step works h hi hj hg
 have h3:bal (setLink s i j {linkOf s i j with came:=(linkOf s i j).came+1})=bal s:=bal_congr rfl
 have hv:=hv.eq
 refine⟨?_⟩
 rw[h3]
 omega
theorem Even.come{i j:Nat}:∀(f d N:Nat) (s:RunS),Even 0 s->Fine N s->i < s.W.length->j < s.W.length->N+d<=90000000->(∀n∈(linkOf s i j).kept,n<=(linkOf s i j).came+d)->Even 0 (comeS f s i j):=by
 intro f
 induction f with
 |zero=>intro d N s ho _ _ _ _ _;exact ho
 |succ f ih=>
  intro d N s ho h hi hj hN hd
  unfold comeS
  split
  ·rename_i hb
   obtain⟨h1,h2,h3,h4⟩:=h.step (by omega) hi hj hb
   have hd1:=hd _ h4
   exact ih (d - 1) (N+1) _ (ho.step h hi hj hb) h1 (by omega) (by omega) (by omega) (fun n hn=>by rw[h2]at hn ⊢;have:=hd n hn;dsimp only;omega)
  ·exact ho
theorem Even.way{s:RunS}(ho:Even 0 s)(m:MsgS):Even 0 (wayS s m):=ho.rest (wayS_rest s m).2.1 (wayS_rest s m).1
theorem Even.deliver{N:Nat}{s:RunS}(ho:Even 0 s)(h:Fine N s)(hN:N+5<=90000000)(k:Int):Even 0 (deliverS s k).1:=by
 unfold deliverS
 split
 ·exact ho
 ·rename_i hme
  obtain⟨h0,h1⟩:=messageE_range hme
  have hg:s.way[k.toNat]?= some (s.way[k.toNat]'(by omega)):=List.getElem?_eq_getElem _
  have hw:=h.ways _ (List.mem_of_getElem? hg)
  rw[hg]
  dsimp only[Option.getD_some]
  generalize s.way[k.toNat]=m at hw ⊢
  have hu:=h.unway k.toNat
  have hou:Even 0 {s with way:=s.way.take k.toNat++s.way.drop (k.toNat+1)}:=ho.rest rfl rfl
  obtain⟨hsl,hse⟩:=h.nat hw.src.1 hw.src.2
  obtain⟨hdl,hde⟩:=h.nat hw.dst.1 hw.dst.2
  split
  ·split
   ·exact hou.relink hu hdl hsl (l:={linkOf {s with way:=s.way.take k.toNat++s.way.drop (k.toNat+1)} m.dst.toNat m.src.toNat with known:=m.no}) rfl rfl
   ·exact hou
  ·rename_i hk0
   obtain⟨n,hn,hne⟩:=hw.sent hk0
   have hnl:=(List.getElem?_eq_some_iff.1 hne).1
   have hkp:=hu.keep hsl hdl (n:=m.no) (by rw[hn];show(n:Int)+1<=((linkOf s m.src.toNat m.dst.toNat).all.length:Int);omega)
   have hok:Even 0 (setLink {s with way:=s.way.take k.toNat++s.way.drop (k.toNat+1)} m.src.toNat m.dst.toNat (keepS (linkOf {s with way:=s.way.take k.toNat++s.way.drop (k.toNat+1)} m.src.toNat m.dst.toNat) m.no)):=hou.relink hu hsl hdl (by
    unfold keepS
    split<;>rfl) (by
    unfold keepS
    split<;>rfl)
   exact(Even.come _ 4 _ _ hok hkp hsl hdl (by omega) (fun a ha=>((hkp.links _ _ hsl hdl).kept a ha).2.2)).way _
theorem Even.steal{N:Nat}{s:RunS}(ho:Even 0 s)(h:Fine N s)(i v:Int):Even 0 (stealS s i v).1:=by
 unfold stealS
 split
 ·exact ho
 ·rename_i hi
  split
  ·exact ho
  ·rename_i hv
   split
   ·exact ho
   ·obtain⟨hi0,hi1⟩:=workerE_range hi
    obtain⟨hv0,hv1⟩:=workerE_range hv
    obtain⟨hil,hie⟩:=h.nat hi0 hi1
    obtain⟨hvl,hve⟩:=h.nat hv0 hv1
    split
    ·exact ho
    ·rename_i x hx
     have hxo:=h.works x (List.mem_of_getElem? hx)
     split
     ·exact ho
     ·exact(ho.reworker hx (x':={x with asked:=true}) (e':=0) rfl).send (h.reworker i.toNat (x:={x with asked:=true}) ⟨hxo.few,hxo.good,hxo.sent,hxo.came,hxo.tok⟩ (Nat.le_refl _)) (by simpa using hil) (by simpa using hvl)
theorem Even.work{N:Nat}{s:RunS}(ho:Even 0 s)(h:Fine N s)(i:Int):Even 0 (workS s i).1:=by
 unfold workS
 split
 ·exact ho
 ·rename_i hw
  obtain⟨h0,hlt⟩:=workerE_range hw
  obtain⟨hil,hie⟩:=h.nat h0 hlt
  split
  ·exact ho
  ·rename_i x hx
   have hxo:=h.works x (List.mem_of_getElem? hx)
   split
   ·exact ho
   ·rename_i t ht
    have htm:t∈x.tasks:=List.mem_of_getLast? ht
    split
    ·exact ho.rest rfl rfl
    ·rename_i hroom
     have ho1:Even 0 {s with W:=s.W.set i.toNat {x with tasks:=x.tasks.dropLast++children s.ks t}}:=ho.reworker hx rfl
     dsimp only
     split
     ·exact ho1.rest rfl rfl
     ·have hne:x.tasks.length≠0:=fun e=>by rw[List.length_eq_zero_iff]at e;rw[e]at htm;simp at htm
      have hwk:WorkerOK s.ks N {x with tasks:=x.tasks.dropLast++children s.ks t}:=by
       refine⟨?_,fun c hc=> ?_,hxo.sent,hxo.came,hxo.tok⟩
       ·have:=h.rmax
        simp
        omega
       ·rcases List.mem_append.1 hc with e|e
        ·exact hxo.good c ((List.dropLast_sublist _).subset e)
        ·exact childrenFrom_good h.prog (hxo.good t htm) c e
      have h2:=h.two
      have hlen:=h.len
      exact ho1.send (h.reworker i.toNat hwk (Nat.le_refl _)) (by simpa using hil) (by simp;omega)
theorem Even.pass{N:Nat}{s:RunS}(ho:Even 0 s)(h:Fine N s)(i:Int):Even 0 (passS s i).1:=by
 unfold passS
 split
 ·exact ho
 ·rename_i hw
  obtain⟨h0,hlt⟩:=workerE_range hw
  obtain⟨hil,hie⟩:=h.nat h0 hlt
  split
  ·exact ho
  ·rename_i x hx
   split
   ·exact ho
   ·rename_i hc
    have hi0:i≠0:=fun e=>hc (.inr (.inl e))
    dsimp only
    exact(ho.send h (m:={msg0 with src:=i,dst:=i - 1,kind:=5,count:=x.token.count+x.sent - x.came,black:=x.token.black||x.black}) hil (by show(i - 1).toNat < _;omega)).reworker (x:=x) (by rw[sendS_W _ _ (by dsimp only;decide)];exact hx) rfl
theorem Even.waves{n:Int}:∀(L:List Nat) (N:Nat) (s:RunS),Even 0 s->Fine N s->s.answers≠ []->(∀k∈L,1<=k/\k < s.W.length)->Even 0 (L.foldl (waveS n) s):=by
 intro L
 induction L with
 |nil=>intro N s ho h _ _;exact ho
 |cons k r ih=>
  intro N s ho h ha hL
  have hk:=hL k (List.mem_cons_self ..)
  obtain⟨e1,e2,-⟩:=sendS_rest s {msg0 with src:=0,dst:=k,kind:=6,round:=n}
  have hs:Fine (N+1) (waveS n s k):=h.waves [k] _ _ ha (fun a b=>by rw[List.mem_singleton.1 b];exact hk)
  have hos:Even 0 (waveS n s k):=ho.send h (by show(0:Int).toNat < _;simp;omega) (by show(k:Int).toNat < _;simp;omega)
  rw[List.foldl_cons]
  exact ih (N+1) (waveS n s k) hos hs (by show(sendS _ _).answers≠ [];rw[e1];exact ha) (fun a b=>by show 1<=a/\a < (sendS _ _).W.length;rw[e2];exact hL a (List.mem_cons_of_mem _ b))
theorem Even.check{N:Nat}{s:RunS}(ho:Even 0 s)(h:Fine N s)(hN:N<=1000000000):Even 0 (checkS s).1:=by
 have h2:=h.two
 have hl:=h.len
 unfold checkS
 split
 ·exact ho
 ·split
  ·unfold ringS
   split
   ·exact ho
   ·rename_i x hx
    have hxo:=h.works x (List.mem_of_getElem? hx)
    split
    ·exact ho
    ·split
     ·exact ho.rest rfl rfl
     ·exact(ho.reworker hx (x':={x with black:=false,has:=false}) (e':=0) rfl).send (h.reworker 0 (x:={x with black:=false,has:=false}) ⟨hxo.few,hxo.good,hxo.sent,hxo.came,hxo.tok⟩ (Nat.le_refl _)) (by show(0:Int).toNat < _;simp;omega) (by show(s.workers - 1).toNat < _;simp;omega)
  ·unfold wavesS
   split
   ·exact ho
   ·rename_i x hx
    have hxo:=h.works x (List.mem_of_getElem? hx)
    split
    ·exact ho
    ·split
     ·exact ho.rest rfl rfl
     ·have h3:Fine (N+1) {s with answers:=s.answers++ [⟨0,0,0,true⟩]}:=h.reans (by have:=h.alen;simp;omega) (by simp) (fun a ha=>by
       rcases List.mem_append.1 ha with e|e
       ·exact(h.ans a e).more (Nat.le_succ N)
       ·rw[List.mem_singleton.1 e];exact⟨by dsimp only;omega,by dsimp only;omega,by dsimp only;omega⟩) (Nat.le_succ N)
      have hsn:=hxo.sent
      have hcm:=hxo.came
      have h4:=h3.noted (a:=x.sent) (b:=x.came) true (by omega) (by omega)
      have hne:(notedS {s with answers:=s.answers++ [⟨0,0,0,true⟩]} x.sent x.came true).answers≠ []:=by
       unfold notedS
       split<;>simp
      have hwl:(notedS {s with answers:=s.answers++ [⟨0,0,0,true⟩]} x.sent x.came true).W.length=s.W.length:=by
       unfold notedS
       split<;>rfl
      have hon:Even 0 (notedS {s with answers:=s.answers++ [⟨0,0,0,true⟩]} x.sent x.came true):=by
       unfold notedS
       split<;>exact ho.rest rfl rfl
      refine Even.waves (List.range' 1 (s.W.length - 1)) (N+1+1) _ hon h4 hne (fun k hk=> ?_)
      rw[hwl]
      have:=List.mem_range'_1.1 hk
      omega
theorem Even.new(workers room mode kind arg:Int)(ks:List KindS):Even 0 (newS workers room mode ks kind arg):=by
 have e:∀n:Nat,((List.replicate n worker0).map fun x=>x.sent - x.came).sum=0:=fun n=>by
  induction n with
  |zero=>rfl
  |succ n ih=>rw[List.replicate_succ,List.map_cons,List.sum_cons,ih];rfl
 have e2:∀n:Nat,((List.replicate n link0).map (linkSum works)).sum=0:=fun n=>by
  induction n with
  |zero=>rfl
  |succ n ih=>rw[List.replicate_succ,List.map_cons,List.sum_cons,ih];rfl
 have e3:∀n k:Nat,((List.replicate n (List.replicate k link0)).map fun ls=>(ls.map (linkSum works)).sum).sum=0:=fun n k=>by
  induction n with
  |zero=>rfl
  |succ n ih=>rw[List.replicate_succ,List.map_cons,List.sum_cons,ih,e2]
 refine⟨?_⟩
 unfold bal total newS
 dsimp only
 rw[List.map_cons,List.sum_cons,e,e3]
 rfl
structure Same(s s':RunS):Prop where
 W:s'.W=s.W
 answers:s'.answers=s.answers
 done:s'.done=s.done
 mode:s'.mode=s.mode
 workers:s'.workers=s.workers
 values:s'.values=s.values
 ks:s'.ks=s.ks
 around:s'.around=s.around
 links:∀i j,(linkOf s' i j).all=(linkOf s i j).all/\(linkOf s' i j).came=(linkOf s i j).came
 shape:s'.links.length=s.links.length/\∀f,total f s'=total f s
theorem Same.refl(s:RunS):Same s s:=⟨rfl,rfl,rfl,rfl,rfl,rfl,rfl,rfl,fun _ _=>⟨rfl,rfl⟩,rfl,fun _=>rfl⟩
theorem Same.trans{a b c:RunS}(h:Same a b)(k:Same b c):Same a c:=
 ⟨k.W.trans h.W,k.answers.trans h.answers,k.done.trans h.done,k.mode.trans h.mode,k.workers.trans h.workers,k.values.trans h.values,k.ks.trans h.ks,k.around.trans h.around,fun i j=>⟨(k.links i j).1.trans (h.links i j).1,(k.links i j).2.trans (h.links i j).2⟩,k.shape.1.trans h.shape.1,fun f=>(k.shape.2 f).trans (h.shape.2 f)⟩
theorem Same.of_way(s:RunS)(y:List MsgS):Same s {s with way:=y}:=⟨rfl,rfl,rfl,rfl,rfl,rfl,rfl,rfl,fun _ _=>⟨rfl,rfl⟩,rfl,fun f=>total_congr f rfl⟩
theorem Same.put(s:RunS)(m:MsgS):Same s (wayS s m):=by
 unfold wayS
 split
 ·exact Same.of_way s _
 ·exact Same.refl s
theorem Same.relink{N:Nat}{s:RunS}(h:Fine N s){i j:Nat}(hi:i < s.W.length)(hj:j < s.W.length){l:LinkS}(ha:l.all=(linkOf s i j).all)(hc:l.came=(linkOf s i j).came):Same s (setLink s i j l):=by
 refine⟨rfl,rfl,rfl,rfl,rfl,rfl,rfl,rfl,fun a b=> ?_,by show(s.links.set i _).length=_;rw[List.length_set],fun f=> ?_⟩
 ·rw[linkOf_set l h.llen h.lrow hi hj a b]
  split
  ·rename_i e
   obtain⟨rfl,rfl⟩:=e
   exact⟨ha,hc⟩
  ·exact⟨rfl,rfl⟩
 ·have h1:=total_set f l h.llen h.lrow hi hj
  have h2:linkSum f l=linkSum f (linkOf s i j):=by
   unfold linkSum
   rw[ha,hc]
  omega
theorem next_msg{N:Nat}{s:RunS}(h:Fine N s){i j:Nat}(hi:i < s.W.length)(hj:j < s.W.length)(hb:nextB (linkOf s i j)=true):∃m,(linkOf s i j).all[(linkOf s i j).came.toNat]?= some m/\MsgOK s.ks (s.answers≠ []) N i j (linkOf s i j).came.toNat m/\Fine N (setLink s i j {linkOf s i j with came:=(linkOf s i j).came+1})/\stepS s i j=cameS (setLink s i j {linkOf s i j with came:=(linkOf s i j).came+1}) m:=by
 have hl:=h.links i j hi hj
 have hmem:(linkOf s i j).came+1∈(linkOf s i j).kept:=by
  unfold nextB at hb
  obtain⟨y,hy,hye⟩:=List.any_eq_true.1 hb
  have:y=(linkOf s i j).came+1:=by simpa using hye
  rw[<-this];exact hy
 have hk:=hl.kept _ hmem
 have hc:=hl.came
 have hs1:Fine N (setLink s i j {linkOf s i j with came:=(linkOf s i j).came+1}):=h.relink hi hj (L:=[]) (by simp) ⟨hl.msgs,hl.all,hl.known,by dsimp only;omega,fun n hn=>by have:=hl.kept n hn;dsimp only;omega,hl.klen⟩ (Nat.le_refl _)
 have hg:(linkOf s i j).all[(linkOf s i j).came.toNat]?= some ((linkOf s i j).all[(linkOf s i j).came.toNat]'(by omega)):=List.getElem?_eq_getElem _
 refine⟨_,hg,hl.msgs _ _ hg,hs1,?_⟩
 unfold stepS
 rw[hg,Option.getD_some]
theorem come_ind {P:RunS->Prop} (hstep:∀N s i j m,Fine N s->N<=90000000->i < s.W.length->j < s.W.length->(linkOf s i j).all[(linkOf s i j).came.toNat]?= some m->MsgOK s.ks (s.answers≠ []) N i j (linkOf s i j).came.toNat m->Fine N (setLink s i j {linkOf s i j with came:=(linkOf s i j).came+1})->P s->P (cameS (setLink s i j {linkOf s i j with came:=(linkOf s i j).came+1}) m)) {i j:Nat}:∀(f d N:Nat) (s:RunS),P s->Fine N s->i < s.W.length->j < s.W.length->N+d<=90000000->(∀n∈(linkOf s i j).kept,n<=(linkOf s i j).came+d)->P (comeS f s i j):=by
 intro f
 induction f with
 |zero=>intro d N s ho _ _ _ _ _;exact ho
 |succ f ih=>
  intro d N s ho h hi hj hN hd
  unfold comeS
  split
  ·rename_i hb
   obtain⟨h1,h2,h3,h4⟩:=h.step (by omega) hi hj hb
   have hd1:=hd _ h4
   obtain⟨m,hm1,hm2,hm3,hm4⟩:=next_msg h hi hj hb
   refine ih (d - 1) (N+1) _ ?_ h1 (by omega) (by omega) (by omega) (fun n hn=>by rw[h2]at hn ⊢;have:=hd n hn;dsimp only;omega)
   rw[hm4]
   exact hstep N s i j m h (by omega) hi hj hm1 hm2 hm3 ho
  ·exact ho
theorem deliver_ind {P:RunS->Prop} (hsame:∀s s',Same s s'->P s->P s') (hstep:∀N s i j m,Fine N s->N<=90000000->i < s.W.length->j < s.W.length->(linkOf s i j).all[(linkOf s i j).came.toNat]?= some m->MsgOK s.ks (s.answers≠ []) N i j (linkOf s i j).came.toNat m->Fine N (setLink s i j {linkOf s i j with came:=(linkOf s i j).came+1})->P s->P (cameS (setLink s i j {linkOf s i j with came:=(linkOf s i j).came+1}) m)) {N:Nat}{s:RunS}(ho:P s)(h:Fine N s)(hN:N+5<=90000000)(k:Int):P (deliverS s k).1:=by
 unfold deliverS
 split
 ·exact ho
 ·rename_i hme
  obtain⟨h0,h1⟩:=messageE_range hme
  have hg:s.way[k.toNat]?= some (s.way[k.toNat]'(by omega)):=List.getElem?_eq_getElem _
  have hw:=h.ways _ (List.mem_of_getElem? hg)
  rw[hg]
  dsimp only[Option.getD_some]
  generalize s.way[k.toNat]=m at hw ⊢
  have hu:=h.unway k.toNat
  have hou:P {s with way:=s.way.take k.toNat++s.way.drop (k.toNat+1)}:=hsame _ _ (Same.of_way s _) ho
  obtain⟨hsl,hse⟩:=h.nat hw.src.1 hw.src.2
  obtain⟨hdl,hde⟩:=h.nat hw.dst.1 hw.dst.2
  split
  ·split
   ·exact hsame _ _ (Same.relink hu hdl hsl (l:={linkOf {s with way:=s.way.take k.toNat++s.way.drop (k.toNat+1)} m.dst.toNat m.src.toNat with known:=m.no}) rfl rfl) hou
   ·exact hou
  ·rename_i hk0
   obtain⟨n,hn,hne⟩:=hw.sent hk0
   have hnl:=(List.getElem?_eq_some_iff.1 hne).1
   have hkp:=hu.keep hsl hdl (n:=m.no) (by rw[hn];show(n:Int)+1<=((linkOf s m.src.toNat m.dst.toNat).all.length:Int);omega)
   have hok:P (setLink {s with way:=s.way.take k.toNat++s.way.drop (k.toNat+1)} m.src.toNat m.dst.toNat (keepS (linkOf {s with way:=s.way.take k.toNat++s.way.drop (k.toNat+1)} m.src.toNat m.dst.toNat) m.no)):=hsame _ _ (Same.relink hu hsl hdl (by
    unfold keepS
    split<;>rfl) (by
    unfold keepS
    split<;>rfl)) hou
   exact hsame _ _ (Same.put _ _) (come_ind hstep _ 4 _ _ hok hkp hsl hdl (by omega) (fun a ha=>((hkp.links _ _ hsl hdl).kept a ha).2.2))
theorem Same.drop(s:RunS)(k:Int):Same s (dropS s k).1:=by
 unfold dropS
 split
 ·exact Same.refl s
 ·exact Same.of_way s _
theorem Same.twice(s:RunS)(k:Int):Same s (twiceS s k).1:=by
 unfold twiceS
 split
 ·exact Same.refl s
 ·exact Same.put s _
theorem Same.tick(s:RunS)(i:Int):Same s (tickS s i).1:=by
 unfold tickS
 split
 ·exact Same.refl s
 ·have:∀(L:List LinkS) (s:RunS),Same s (L.foldl againS s):=by
   intro L
   induction L with
   |nil=>exact fun s=>Same.refl s
   |cons l L ih=>
    intro s
    obtain⟨y,hy,-⟩:=againS_eq s l
    rw[List.foldl_cons,hy]
    exact(Same.of_way s y).trans (ih _)
  exact this _ s
def dif(x:WorkerS):Int:=x.sent - x.came
def upto(t:Nat)(s:RunS):Int:=((s.W.take (t+1)).map dif).sum
def beyond(t:Nat)(s:RunS):Int:=((s.W.drop (t+1)).map dif).sum
theorem upto_beyond(t:Nat)(s:RunS):upto t s+beyond t s=bal s:=by
 have h:bal s=(s.W.map dif).sum:=rfl
 rw[h]
 unfold upto beyond
 rw[<-List.sum_append,<-List.map_append,List.take_append_drop]
theorem upto_set{s:RunS}{t i:Nat}{x x':WorkerS}(hx:s.W[i]?= some x):upto t {s with W:=s.W.set i x'}=if i<=t then upto t s+dif x' - dif x else upto t s:=by
 unfold upto
 dsimp only
 rw[List.take_set]
 by_cases h:i<=t
 ·rw[if_pos h]
  have h1:(s.W.take (t+1))[i]?= some x:=by rw[List.getElem?_take,if_pos (by omega)];exact hx
  have:=isum_set dif _ i x' x h1
  omega
 ·rw[if_neg h,List.set_eq_of_length_le (by rw[List.length_take];omega)]
theorem beyond_set{s:RunS}{t i:Nat}{x x':WorkerS}(hx:s.W[i]?= some x):beyond t {s with W:=s.W.set i x'}=if i<=t then beyond t s else beyond t s+dif x' - dif x:=by
 have h1:=upto_beyond t s
 have h2:=upto_beyond t {s with W:=s.W.set i x'}
 have h3:=bal_set x' hx
 have h4:=upto_set (t:=t) (x':=x') hx
 have e1:dif x=x.sent - x.came:=rfl
 have e2:dif x'=x'.sent - x'.came:=rfl
 split
 ·rename_i h;rw[if_pos h]at h4;omega
 ·rename_i h;rw[if_neg h]at h4;omega
def Safra(s:RunS)(t:Nat)(q:Int)(b:Bool):Prop:=
 ((∀i x,t < i->s.W[i]?= some x->x.tasks=[])/\q=beyond t s)\/0 < upto t s+q\/(∃i x,i<=t/\s.W[i]?= some x/\x.black=true)\/b=true
theorem Safra.congr{s s':RunS}{t:Nat}{q:Int}{b:Bool}(h:Safra s t q b)(e:s'.W=s.W):Safra s' t q b:=by
 unfold Safra upto beyond at *
 rw[e]
 exact h
theorem Safra.set{s:RunS}{t i:Nat}{q:Int}{b:Bool}{x x':WorkerS}(h:Safra s t q b)(hx:s.W[i]?= some x)(hb:x.black=true->x'.black=true)(hd:dif x<=dif x')(hc:x.tasks≠ []\/(x'.tasks=[]/\dif x'=dif x)):Safra {s with W:=s.W.set i x'} t q b:=by
 have hil:=(List.getElem?_eq_some_iff.1 hx).1
 have hget:∀k y,(s.W.set i x')[k]?= some y->k≠i->s.W[k]?= some y:=fun k y hy hk=>by rwa [List.getElem?_set_ne (fun e=>hk e.symm)]at hy
 have hu:=upto_set (t:=t) (x':=x') hx
 have hv:=beyond_set (t:=t) (x':=x') hx
 rcases h with⟨hA,hq⟩|hB|⟨k,y,hk,hy,hbl⟩|hD
 ·by_cases hi:i<=t
  ·refine .inl ⟨fun k y hk hy=>hA k y hk (hget k y hy (by omega)),?_⟩
   rw[if_pos hi]at hv
   rw[hv];exact hq
  ·have hx0:=hA i x (by omega) hx
   rcases hc with hc|⟨hc1,hc2⟩
   ·exact absurd hx0 hc
   ·refine .inl ⟨fun k y hk hy=> ?_,?_⟩
    ·by_cases e:k=i
     ·subst e
      have hy':(s.W.set k x')[k]?= some y:=hy
      rw[List.getElem?_set_self hil]at hy'
      obtain rfl:=Option.some.inj hy'
      exact hc1
     ·exact hA k y hk (hget k y hy e)
    ·rw[if_neg hi]at hv
     rw[hv];omega
 ·refine .inr (.inl ?_)
  split at hu<;>omega
 ·refine .inr (.inr (.inl ?_))
  by_cases e:k=i
  ·subst e
   rw[hx]at hy
   obtain rfl:=Option.some.inj hy
   exact⟨k,x',hk,List.getElem?_set_self hil,hb hbl⟩
  ·exact⟨k,y,hk,by rw[List.getElem?_set_ne (fun e'=>e e'.symm)];exact hy,hbl⟩
 ·exact .inr (.inr (.inr hD))
theorem Safra.work{s:RunS}{t i:Nat}{q:Int}{b:Bool}{x x':WorkerS}(h:Safra s t q b)(hx:s.W[i]?= some x)(hb:x'.black=true)(hbal:0 < bal s):Safra {s with W:=s.W.set i x'} t q b:=by
 have hil:=(List.getElem?_eq_some_iff.1 hx).1
 have hu:=upto_set (t:=t) (x':=x') hx
 have hs:=upto_beyond t s
 by_cases hi:i<=t
 ·exact .inr (.inr (.inl ⟨i,x',hi,List.getElem?_set_self hil,hb⟩))
 ·rw[if_neg hi]at hu
  rcases h with⟨hA,hq⟩|hB|⟨k,y,hk,hy,hbl⟩|hD
  ·exact .inr (.inl (by rw[hu];omega))
  ·exact .inr (.inl (by rw[hu];exact hB))
  ·exact .inr (.inr (.inl ⟨k,y,hk,by rw[List.getElem?_set_ne (by omega)];exact hy,hbl⟩))
  ·exact .inr (.inr (.inr hD))
def tok(m:MsgS):Nat:=if m.kind=5 then 1 else 0
def hasN(x:WorkerS):Nat:=if x.has=true then 1 else 0
def held(s:RunS):Nat:=(s.W.map hasN).sum
def Under(s:RunS)(i j:Nat)(m:MsgS):Prop:=i < s.W.length/\j < s.W.length/\∃k,(linkOf s i j).came.toNat<=k/\(linkOf s i j).all[k]?= some m
theorem mem_sum{α:Type}(g:α->Nat):∀(l:List α) (x:α),x∈l->g x<=(l.map g).sum
 |[],_,h=>by simp at h
 |a :: r,x,h=>by
  rw[List.map_cons,List.sum_cons]
  rcases List.mem_cons.1 h with rfl|h
  ·omega
  ·have:=mem_sum g r x h;omega
theorem Under.weigh{s:RunS}{i j:Nat}{m:MsgS}(h:Under s i j m)(hl:s.links.length=s.W.length)(hr:∀ls∈s.links,ls.length=s.W.length)(f:MsgS->Nat):f m<=total f s:=by
 obtain⟨hi,hj,k,hk,hm⟩:=h
 have h1:s.links[i]?= some s.links[i]:=List.getElem?_eq_getElem (by omega)
 have h2:=hr _ (List.mem_of_getElem? h1)
 have h3:s.links[i][j]?= some s.links[i][j]:=List.getElem?_eq_getElem (by omega)
 have e:linkOf s i j=s.links[i][j]:=by unfold linkOf;rw[h1,Option.getD_some,h3,Option.getD_some]
 rw[e]at hk hm
 have a1:f m<=linkSum f s.links[i][j]:=by
  unfold linkSum
  refine mem_sum f _ m ?_
  have:(s.links[i][j].all.drop s.links[i][j].came.toNat)[k - s.links[i][j].came.toNat]?= some m:=by rw[List.getElem?_drop,Nat.add_sub_cancel' hk];exact hm
  exact List.mem_of_getElem? this
 have a2:=mem_sum (linkSum f) s.links[i] _ (List.mem_of_getElem? h3)
 have a3:=mem_sum (fun ls=>(ls.map (linkSum f)).sum) s.links _ (List.mem_of_getElem? h1)
 show f m<=(s.links.map fun ls=>(ls.map (linkSum f)).sum).sum
 omega
structure RingOK(s:RunS):Prop where
 one:held s+total tok s<=1
 here:∀t x,s.W[t]?= some x->x.has=true->Safra s t x.token.count x.token.black
 way:∀i j m,Under s i j m->m.kind=5->Safra s j m.count m.black
theorem held_set{s:RunS}{i:Nat}{x:WorkerS}(x':WorkerS)(hx:s.W[i]?= some x):held {s with W:=s.W.set i x'}+hasN x=held s+hasN x':=sum_set hasN s.W i x' x hx
theorem linkOf_send(s:RunS)(m:MsgS)(hl:s.links.length=s.W.length)(hr:∀ls∈s.links,ls.length=s.W.length)(hi:m.src.toNat < s.W.length)(hj:m.dst.toNat < s.W.length):linkOf (sendS s m) m.src.toNat m.dst.toNat={linkOf s m.src.toNat m.dst.toNat with all:=(linkOf s m.src.toNat m.dst.toNat).all++ [{m with no:=(linkOf s m.src.toNat m.dst.toNat).all.length+1}]}:=by
 have h:=linkOf_set {linkOf s m.src.toNat m.dst.toNat with all:=(linkOf s m.src.toNat m.dst.toNat).all++ [{m with no:=(linkOf s m.src.toNat m.dst.toNat).all.length+1}]} hl hr hi hj m.src.toNat m.dst.toNat
 rw[if_pos ⟨rfl,rfl⟩]at h
 rw[<-h]
 unfold sendS wayS linkOf setLink
 dsimp only
 split<;>split<;>rfl
theorem sendS_len(s:RunS)(m:MsgS):(sendS s m).W.length=s.W.length:=by
 unfold sendS wayS
 dsimp only
 split<;>split<;>simp
theorem Under.of_send{N:Nat}{s:RunS}(h:Fine N s){m m':MsgS}{a b:Nat}(hi:m.src.toNat < s.W.length)(hj:m.dst.toNat < s.W.length)(hu:Under (sendS s m) a b m'):Under s a b m'\/(a=m.src.toNat/\b=m.dst.toNat/\∃n,m'={m with no:=n}):=by
 obtain⟨ha,hb,k,hk,hm⟩:=hu
 rw[sendS_len]at ha hb
 by_cases e:a=m.src.toNat/\b=m.dst.toNat
 ·obtain⟨rfl,rfl⟩:=e
  rw[linkOf_send s m h.llen h.lrow hi hj]at hk hm
  dsimp only at hk hm
  rcases Nat.lt_or_ge k (linkOf s m.src.toNat m.dst.toNat).all.length with hlt|hge
  ·rw[List.getElem?_append_left hlt]at hm
   exact .inl ⟨ha,hb,k,hk,hm⟩
  ·rw[List.getElem?_append_right hge]at hm
   have:m'={m with no:=(linkOf s m.src.toNat m.dst.toNat).all.length+1}:=by
    cases hz:k - (linkOf s m.src.toNat m.dst.toNat).all.length with
    |zero=>rw[hz]at hm;simpa using hm.symm
    |succ z=>rw[hz]at hm;simp at hm
   exact .inr ⟨rfl,rfl,_,this⟩
 ·rw[sendS_link s m h.llen h.lrow hi hj e]at hk hm
  exact .inl ⟨ha,hb,k,hk,hm⟩
structure RingE(m:MsgS)(j:Nat)(s:RunS):Prop where
 one:held s+total tok s+tok m<=1
 here:∀t x,s.W[t]?= some x->x.has=true->Safra s t x.token.count x.token.black
 way:∀a b m',Under s a b m'->m'.kind=5->Safra s b m'.count m'.black
 hand:m.kind=5->Safra s j m.count m.black
theorem RingE.of{m:MsgS}{j:Nat}{s:RunS}(h:RingE m j s)(hk:m.kind≠5):RingOK s:=⟨by have:=h.one;have e:tok m=0:=if_neg hk;omega,h.here,h.way⟩
theorem RingOK.same{s s':RunS}(h:RingOK s)(e:Same s s'):RingOK s':=by
 have hh:held s'=held s:=by unfold held;rw[e.W]
 refine⟨by rw[hh,e.shape.2];exact h.one,fun t x hx hb=> ?_,fun i j m hu hk=> ?_⟩
 ·rw[e.W]at hx
  exact(h.here t x hx hb).congr e.W
 ·obtain⟨hi,hj,k,hk1,hk2⟩:=hu
  rw[(e.links i j).1]at hk2
  rw[(e.links i j).2]at hk1
  rw[e.W]at hi hj
  exact(h.way i j m ⟨hi,hj,k,hk1,hk2⟩ hk).congr e.W
theorem RingOK.congr{s s':RunS}(h:RingOK s)(e:s'.W=s.W)(e2:s'.links=s.links):RingOK s':=by
 have hh:held s'=held s:=by unfold held;rw[e]
 have hl:∀a b,linkOf s' a b=linkOf s a b:=fun a b=>by unfold linkOf;rw[e2]
 refine⟨by rw[hh,total_congr tok e2];exact h.one,fun t x hx hb=> ?_,fun i j m hu hk=> ?_⟩
 ·rw[e]at hx
  exact(h.here t x hx hb).congr e
 ·obtain⟨hi,hj,k,hk1,hk2⟩:=hu
  rw[hl]at hk1 hk2
  rw[e]at hi hj
  exact(h.way i j m ⟨hi,hj,k,hk1,hk2⟩ hk).congr e
theorem RingOK.reworker{s:RunS}(h:RingOK s){i:Nat}{x x':WorkerS}(hx:s.W[i]?= some x)(hS:∀t q b,Safra s t q b->Safra {s with W:=s.W.set i x'} t q b)(hh:x'.has=x.has/\x'.token=x.token):RingOK {s with W:=s.W.set i x'}:=by
 have hil:=(List.getElem?_eq_some_iff.1 hx).1
 have h1:=held_set x' hx
 have e:hasN x'=hasN x:=by unfold hasN;rw[hh.1]
 refine⟨?_,fun t y hy hb=> ?_,fun a b m hu hk=> ?_⟩
 ·have e2:total tok {s with W:=s.W.set i x'}=total tok s:=total_congr tok rfl
  have:=h.one
  omega
 ·by_cases et:t=i
  ·subst et
   have hy':(s.W.set t x')[t]?= some y:=hy
   rw[List.getElem?_set_self hil]at hy'
   obtain rfl:=Option.some.inj hy'
   rw[hh.2]
   exact hS _ _ _ (h.here t x hx (by rw[<-hh.1];exact hb))
  ·have hy':(s.W.set i x')[t]?= some y:=hy
   rw[List.getElem?_set_ne (fun e'=>et e'.symm)]at hy'
   exact hS _ _ _ (h.here t y hy' hb)
 ·obtain⟨ha,hb,k,hk1,hk2⟩:=hu
  exact hS _ _ _ (h.way a b m ⟨by simpa using ha,by simpa using hb,k,hk1,hk2⟩ hk)
theorem RingOK.send{N:Nat}{s:RunS}(h:RingOK s)(hf:Fine N s){m:MsgS}(hi:m.src.toNat < s.W.length)(hj:m.dst.toNat < s.W.length)(hk:m.kind≠5/\m.kind≠2/\m.kind≠4):RingOK (sendS s m):=by
 have hW:=sendS_W s m (by omega)
 obtain⟨n,hn⟩:=total_send tok hf m hi hj
 have ht:tok {m with no:=n}=0:=by unfold tok;rw[if_neg hk.1]
 have hh:held (sendS s m)=held s:=by unfold held;rw[hW]
 refine⟨by rw[hh,hn,ht];exact h.one,fun t x hx hb=> ?_,fun a b m' hu hk'=> ?_⟩
 ·rw[hW]at hx
  exact(h.here t x hx hb).congr hW
 ·rcases Under.of_send hf hi hj hu with hu'|⟨-,-,n',rfl⟩
  ·exact(h.way a b m' hu' hk').congr hW
  ·exact absurd hk' hk.1
theorem sendS_W2(s:RunS)(m:MsgS)(h:m.kind=2\/m.kind=4):(sendS s m).W=s.W.set m.src.toNat {s.W[m.src.toNat]?.getD worker0 with sent:=(s.W[m.src.toNat]?.getD worker0).sent+1}:=by
 unfold sendS wayS
 simp only[if_pos h]
 split<;>rfl
theorem RingOK.sendWork{N:Nat}{s:RunS}(h:RingOK s){i:Nat}{x y:WorkerS}(hx:s.W[i]?= some x)(hne:x.tasks≠ [])(hy:y.sent=x.sent/\y.came=x.came/\y.black=x.black/\y.has=x.has/\y.token=x.token){m:MsgS}(hf:Fine N {s with W:=s.W.set i y})(hi:m.src.toNat=i)(hj:m.dst.toNat < s.W.length)(hk:m.kind=2\/m.kind=4):RingOK (sendS {s with W:=s.W.set i y} m):=by
 have hil:=(List.getElem?_eq_some_iff.1 hx).1
 have hk5:m.kind≠5:=by omega
 have hget:({s with W:=s.W.set i y}:RunS).W[i]?= some y:=List.getElem?_set_self hil
 have hW:(sendS {s with W:=s.W.set i y} m).W=s.W.set i {y with sent:=y.sent+1}:=by
  rw[sendS_W2 _ m hk,hi,hget,Option.getD_some]
  show(s.W.set i y).set i _=_
  rw[List.set_set]
 have h1:RingOK {s with W:=s.W.set i {y with sent:=y.sent+1}}:=h.reworker hx (fun t q b hS=>hS.set hx (fun hb=>by rw[<-hb];exact hy.2.2.1) (by unfold dif;dsimp only;omega) (.inl hne)) ⟨hy.2.2.2.1,hy.2.2.2.2⟩
 have hWl:(s.W.set i y).length=s.W.length:=List.length_set ..
 obtain⟨n,hn⟩:=total_send tok hf m (by show m.src.toNat < (s.W.set i y).length;omega) (by show m.dst.toNat < (s.W.set i y).length;omega)
 have ht:tok {m with no:=n}=0:=by unfold tok;rw[if_neg hk5]
 have hh:held (sendS {s with W:=s.W.set i y} m)=held {s with W:=s.W.set i {y with sent:=y.sent+1}}:=by unfold held;rw[hW]
 refine⟨?_,fun t z hz hb=> ?_,fun a b m' hu hk'=> ?_⟩
 ·rw[hh,hn,ht]
  have:=h1.one
  have e:total tok {s with W:=s.W.set i {y with sent:=y.sent+1}}=total tok {s with W:=s.W.set i y}:=total_congr tok rfl
  omega
 ·rw[hW]at hz
  exact(h1.here t z hz hb).congr hW
 ·rcases Under.of_send hf (by show m.src.toNat < (s.W.set i y).length;omega) (by show m.dst.toNat < (s.W.set i y).length;omega) hu with hu'|⟨-,-,n',rfl⟩
  ·obtain⟨ha,hb,k,hk1,hk2⟩:=hu'
   exact(h1.way a b m' ⟨by simpa using ha,by simpa using hb,k,hk1,hk2⟩ hk').congr hW
  ·exact absurd hk' hk5
theorem RingE.came{N:Nat}{s:RunS}{i j n:Nat}{m:MsgS}(h:RingE m j s)(hf:Fine N s)(hi:i < s.W.length)(hj:j < s.W.length)(hm:MsgOK s.ks (s.answers≠ []) N i j n m)(hb:works m=1->0 < bal s):RingOK (cameS s m):=by
 have hs0:=hm.src
 have hd0:=hm.dst
 have ejn:m.dst.toNat=j:=by omega
 have hx:s.W[j]?= some (s.W[j]'hj):=List.getElem?_eq_getElem _
 unfold cameS
 dsimp only
 rw[ejn,hx,Option.getD_some]
 generalize s.W[j]'_=x at hx ⊢
 have hxo:=hf.works x (List.mem_of_getElem? hx)
 split
 ·rename_i h1
  have hR:=h.of (by omega)
  split
  ·exact hR.send hf (by show m.dst.toNat < _;omega) (by show m.src.toNat < _;omega) ⟨by simp,by simp,by simp⟩
  ·rename_i t r ht
   have hwk:WorkerOK s.ks N {x with tasks:=r}:=⟨by have:=hxo.few;rw[ht]at this;simp at this;dsimp only;omega,fun c hc=>hxo.good c (by rw[ht];exact List.mem_cons_of_mem _ hc),hxo.sent,hxo.came,hxo.tok⟩
   exact hR.sendWork hx (by rw[ht];simp) (y:={x with tasks:=r}) ⟨rfl,rfl,rfl,rfl,rfl⟩ (hf.reworker j hwk (Nat.le_refl _)) ejn (by show m.src.toNat < _;omega) (.inl rfl)
 ·split
  ·rename_i h2
   have hp:=hb (by simp[works,h2])
   exact(h.of (by omega)).reworker hx (fun t q b hS=>hS.work hx rfl hp) ⟨rfl,rfl⟩
  ·split
   ·rename_i h3
    exact(h.of (by omega)).reworker hx (fun t q b hS=>hS.set hx (fun hb=>hb) (Int.le_refl _) (by
     by_cases e:x.tasks=[]
     ·exact .inr ⟨e,rfl⟩
     ·exact .inl e)) ⟨rfl,rfl⟩
   ·split
    ·rename_i h4
     have hp:=hb (by simp[works,h4])
     exact RingOK.congr (s:={s with W:=s.W.set j {x with came:=x.came+1,black:=true}}) ((h.of (by omega)).reworker hx (fun t q b hS=>hS.work hx rfl hp) ⟨rfl,rfl⟩) rfl rfl
    ·split
     ·rename_i h5
      have ht:tok m=1:=if_pos h5
      have hone:=h.one
      have hh:hasN x=0:=by
       have:=mem_sum hasN s.W x (List.mem_of_getElem? hx)
       unfold held at hone
       omega
      have hset:=held_set {x with has:=true,token:=m} hx
      have hS:∀t q b,Safra s t q b->Safra {s with W:=s.W.set j {x with has:=true,token:=m}} t q b:=fun t q b hS=>hS.set hx (fun hb=>hb) (Int.le_refl _) (by
       by_cases e:x.tasks=[]
       ·exact .inr ⟨e,rfl⟩
       ·exact .inl e)
      have hN:hasN {x with has:=true,token:=m}=1:=rfl
      refine RingOK.congr (s:={s with W:=s.W.set j {x with has:=true,token:=m}}) ⟨?_,fun t y hy hb=> ?_,fun a b m' hu hk=> ?_⟩ rfl rfl
      ·have e2:total tok {s with W:=s.W.set j {x with has:=true,token:=m}}=total tok s:=total_congr tok rfl
       omega
      ·by_cases et:t=j
       ·subst et
        have hy':(s.W.set t {x with has:=true,token:=m})[t]?= some y:=hy
        rw[List.getElem?_set_self hj]at hy'
        obtain rfl:=Option.some.inj hy'
        exact hS _ _ _ (h.hand h5)
       ·have hy':(s.W.set j {x with has:=true,token:=m})[t]?= some y:=hy
        rw[List.getElem?_set_ne (fun e'=>et e'.symm)]at hy'
        exact hS _ _ _ (h.here t y hy' hb)
      ·obtain⟨ha,hb,k,hk1,hk2⟩:=hu
       exact hS _ _ _ (h.way a b m' ⟨by simpa using ha,by simpa using hb,k,hk1,hk2⟩ hk)
     ·rename_i h5
      have hR:=h.of h5
      split
      ·exact hR.send hf (by show m.dst.toNat < _;omega) (by show(0:Int).toNat < _;simp;omega) ⟨by simp,by simp,by simp⟩
      ·split
       ·unfold notedS
        split
        ·exact hR
        ·exact hR.congr rfl rfl
       ·exact hR
theorem RingOK.step{N:Nat}{s:RunS}{i j:Nat}{m:MsgS}(h:RingOK s)(hv:Even 0 s)(hf:Fine N s)(hi:i < s.W.length)(hj:j < s.W.length)(hg:(linkOf s i j).all[(linkOf s i j).came.toNat]?= some m)(hm:MsgOK s.ks (s.answers≠ []) N i j (linkOf s i j).came.toNat m)(hf1:Fine N (setLink s i j {linkOf s i j with came:=(linkOf s i j).came+1})):RingOK (cameS (setLink s i j {linkOf s i j with came:=(linkOf s i j).came+1}) m):=by
 have hu:Under s i j m:=⟨hi,hj,_,Nat.le_refl _,hg⟩
 have hset:=linkOf_set {linkOf s i j with came:=(linkOf s i j).came+1} hf.llen hf.lrow hi hj
 have hca:=(hf.links i j hi hj).came
 refine RingE.came ⟨?_,fun t x hx hb=>(h.here t x hx hb).congr rfl,fun a b m' hu' hk=> ?_,fun hk=>(h.way i j m hu hk).congr rfl⟩ hf1 hi hj hm (fun hw=> ?_)
 ·have h1:=total_step tok hf hi hj hg
  have h2:held (setLink s i j {linkOf s i j with came:=(linkOf s i j).came+1})=held s:=rfl
  have:=h.one
  omega
 ·refine(h.way a b m' ?_ hk).congr rfl
  obtain⟨ha,hb,k,hk1,hk2⟩:=hu'
  rw[hset]at hk1 hk2
  split at hk1
  ·rename_i e
   rw[if_pos e]at hk2
   obtain⟨rfl,rfl⟩:=e
   exact⟨ha,hb,k,by dsimp only at hk1;omega,hk2⟩
  ·rename_i e
   rw[if_neg e]at hk2
   exact⟨ha,hb,k,hk1,hk2⟩
 ·have h1:=hv.eq
  have h2:=hu.weigh hf.llen hf.lrow works
  have h3:bal (setLink s i j {linkOf s i j with came:=(linkOf s i j).came+1})=bal s:=rfl
  rw[h3]
  omega
theorem RingOK.deliver{N:Nat}{s:RunS}(h:RingOK s)(hv:Even 0 s)(hf:Fine N s)(hN:N+5<=90000000)(k:Int):RingOK (deliverS s k).1:=by
 have:=deliver_ind (P:=fun s=>RingOK s/\Even 0 s) (fun a b e hP=>⟨hP.1.same e,⟨by have:=hP.2.eq;rw[bal_congr e.W,e.shape.2];exact this⟩⟩)
  (fun N s i j m hf _ hi hj hg hm hf1 hP=>⟨hP.1.step hP.2 hf hi hj hg hm hf1,by
   have h1:=total_step works hf hi hj hg
   have h3:bal (setLink s i j {linkOf s i j with came:=(linkOf s i j).came+1})=bal s:=rfl
   have hv:=hP.2.eq
   exact Even.came ⟨by rw[h3];omega⟩ hf1 hi hj hm⟩) ⟨h,hv⟩ hf hN k
 exact this.1
theorem RingOK.work{N:Nat}{s:RunS}(ho:RingOK s)(h:Fine N s)(i:Int):RingOK (workS s i).1:=by
 unfold workS
 split
 ·exact ho
 ·rename_i hw
  obtain⟨h0,hlt⟩:=workerE_range hw
  obtain⟨hil,hie⟩:=h.nat h0 hlt
  split
  ·exact ho
  ·rename_i x hx
   have hxo:=h.works x (List.mem_of_getElem? hx)
   split
   ·exact ho
   ·rename_i t ht
    have htm:t∈x.tasks:=List.mem_of_getLast? ht
    have htn:x.tasks≠ []:=fun e=>by rw[e]at htm;simp at htm
    split
    ·exact ho.congr rfl rfl
    ·rename_i hroom
     dsimp only
     split
     ·exact RingOK.congr (s:={s with W:=s.W.set i.toNat {x with tasks:=x.tasks.dropLast++children s.ks t}}) (ho.reworker hx (fun t' q b hS=>hS.set hx (fun hb=>hb) (Int.le_refl _) (.inl htn)) ⟨rfl,rfl⟩) rfl rfl
     ·have hne:x.tasks.length≠0:=fun e=>by rw[List.length_eq_zero_iff]at e;exact htn e
      have hwk:WorkerOK s.ks N {x with tasks:=x.tasks.dropLast++children s.ks t}:=by
       refine⟨?_,fun c hc=> ?_,hxo.sent,hxo.came,hxo.tok⟩
       ·have:=h.rmax
        simp
        omega
       ·rcases List.mem_append.1 hc with e|e
        ·exact hxo.good c ((List.dropLast_sublist _).subset e)
        ·exact childrenFrom_good h.prog (hxo.good t htm) c e
      have h2:=h.two
      have hlen:=h.len
      exact ho.sendWork hx htn (y:={x with tasks:=x.tasks.dropLast++children s.ks t}) ⟨rfl,rfl,rfl,rfl,rfl⟩ (h.reworker i.toNat hwk (Nat.le_refl _)) rfl (by show(0:Int).toNat < _;simp;omega) (.inr rfl)
theorem RingOK.steal{N:Nat}{s:RunS}(ho:RingOK s)(h:Fine N s)(i v:Int):RingOK (stealS s i v).1:=by
 unfold stealS
 split
 ·exact ho
 ·rename_i hi
  split
  ·exact ho
  ·rename_i hv
   split
   ·exact ho
   ·obtain⟨hi0,hi1⟩:=workerE_range hi
    obtain⟨hv0,hv1⟩:=workerE_range hv
    obtain⟨hil,hie⟩:=h.nat hi0 hi1
    obtain⟨hvl,hve⟩:=h.nat hv0 hv1
    split
    ·exact ho
    ·rename_i x hx
     have hxo:=h.works x (List.mem_of_getElem? hx)
     split
     ·exact ho
     ·refine RingOK.send (N:=N) (ho.reworker hx (x':={x with asked:=true}) (fun t q b hS=>hS.set hx (fun hb=>hb) (Int.le_refl _) (by
       by_cases e:x.tasks=[]
       ·exact .inr ⟨e,rfl⟩
       ·exact .inl e)) ⟨rfl,rfl⟩) (h.reworker i.toNat (x:={x with asked:=true}) ⟨hxo.few,hxo.good,hxo.sent,hxo.came,hxo.tok⟩ (Nat.le_refl _)) (by simpa using hil) (by simpa using hvl) ⟨by simp,by simp,by simp⟩
theorem RingOK.handOn{N:Nat}{s s':RunS}{i:Nat}{x:WorkerS}{m:MsgS}(ho:RingOK s)(h:Fine N s)(hx:s.W[i]?= some x)(hh:x.has=true)(hk:m.kind=5)(hi:m.src.toNat < s.W.length)(hj:m.dst.toNat < s.W.length)(hW:s'.W=s.W.set i {x with black:=false,has:=false})(hL:s'.links=(sendS s m).links)(hS:Safra s' m.dst.toNat m.count m.black):RingOK s':=by
 have hil:=(List.getElem?_eq_some_iff.1 hx).1
 have hone:=ho.one
 have h1:=held_set {x with black:=false,has:=false} hx
 have hN:hasN x=1:=if_pos hh
 have hN0:hasN {x with black:=false,has:=false}=0:=rfl
 have hm1:=mem_sum hasN s.W x (List.mem_of_getElem? hx)
 have hd:held s=(s.W.map hasN).sum:=rfl
 have hd':held s'=held {s with W:=s.W.set i {x with black:=false,has:=false}}:=by unfold held;rw[hW]
 have hz:held s'=0/\total tok s=0:=by omega
 obtain⟨n,hn⟩:=total_send tok h m hi hj
 have ht:tok {m with no:=n}=1:=if_pos hk
 have htot:total tok s'=total tok (sendS s m):=total_congr tok hL
 refine⟨by omega,fun t y hy hb=> ?_,fun a b m' hu hk'=> ?_⟩
 ·have:=mem_sum hasN s'.W y (List.mem_of_getElem? hy)
  have e:hasN y=1:=if_pos hb
  have:held s'=(s'.W.map hasN).sum:=rfl
  omega
 ·have hlk:∀a b,linkOf s' a b=linkOf (sendS s m) a b:=fun a b=>by unfold linkOf;rw[hL]
  have hlen:s'.W.length=s.W.length:=by rw[hW,List.length_set]
  obtain⟨ha,hb,k,hk1,hk2⟩:=hu
  rw[hlk]at hk1 hk2
  rw[hlen]at ha hb
  rcases Under.of_send h hi hj (m':=m') (a:=a) (b:=b) ⟨by rw[sendS_len];exact ha,by rw[sendS_len];exact hb,k,hk1,hk2⟩with hu'|⟨-,e2,n',rfl⟩
  ·have h9:=hu'.weigh h.llen h.lrow tok
   have e:tok m'=1:=if_pos hk'
   omega
  ·rw[e2];exact hS
theorem sendS_links_eq(s s2:RunS)(m:MsgS)(e:s2.links=s.links):(sendS s2 m).links=(sendS s m).links:=by
 unfold sendS wayS
 dsimp only
 rw[e]
 split<;>split<;>split<;>rfl
theorem RingOK.pass{N:Nat}{s:RunS}(ho:RingOK s)(h:Fine N s)(i:Int):RingOK (passS s i).1:=by
 unfold passS
 split
 ·exact ho
 ·rename_i hw
  obtain⟨h0,hlt⟩:=workerE_range hw
  obtain⟨hil,hie⟩:=h.nat h0 hlt
  split
  ·exact ho
  ·rename_i x hx
   split
   ·exact ho
   ·rename_i hc
    have hi0:i≠0:=fun e=>hc (.inr (.inl e))
    have hh:x.has=true:=by
     cases hb:x.has with
     |true=>rfl
     |false=>exact absurd (.inr (.inr (.inl hb))) hc
    have hidle:x.tasks=[]:=by
     cases hb:x.tasks with
     |nil=>rfl
     |cons a b=>exact absurd (.inr (.inr (.inr (by rw[hb];simp)))) hc
    have hsW:=sendS_W s {msg0 with src:=i,dst:=i - 1,kind:=5,count:=x.token.count+x.sent - x.came,black:=x.token.black||x.black} (by simp)
    refine ho.handOn h hx hh (m:={msg0 with src:=i,dst:=i - 1,kind:=5,count:=x.token.count+x.sent - x.came,black:=x.token.black||x.black}) rfl hil (by show(i - 1).toNat < _;omega) (by dsimp only;rw[hsW]) rfl ?_
    have hS:=ho.here i.toNat x hx hh
    have et:(i - 1).toNat+1=i.toNat:=by omega
    obtain⟨t,ht⟩:∃t,(i - 1).toNat=t:=⟨_,rfl⟩
    have hW':({sendS s {msg0 with src:=i,dst:=i - 1,kind:=5,count:=x.token.count+x.sent - x.came,black:=x.token.black||x.black}with W:=(sendS s {msg0 with src:=i,dst:=i - 1,kind:=5,count:=x.token.count+x.sent - x.came,black:=x.token.black||x.black}).W.set i.toNat {x with black:=false,has:=false}}:RunS).W=s.W.set i.toNat {x with black:=false,has:=false}:=by dsimp only;rw[hsW]
    refine Safra.congr (s:={s with W:=s.W.set i.toNat {x with black:=false,has:=false}}) ?_ hW'
    show Safra _ (i - 1).toNat (x.token.count+x.sent - x.came) (x.token.black||x.black)
    rw[ht]at et ⊢
    have hu:=upto_set (t:=t) (x':={x with black:=false,has:=false}) hx
    have hv:=beyond_set (t:=t) (x':={x with black:=false,has:=false}) hx
    rw[if_neg (by omega)]at hu hv
    have hdd:dif {x with black:=false,has:=false}=dif x:=rfl
    have hdx:dif x=x.sent - x.came:=rfl
    have hup:upto i.toNat s=upto t s+dif x:=by
     unfold upto
     have hget:s.W[t+1]?= some x:=by rw[et];exact hx
     rw[<-et,List.take_add_one,hget]
     simp
    have hall:=upto_beyond t s
    have hall':=upto_beyond i.toNat s
    rcases hS with⟨hA,hq⟩|hB|⟨k,y,hk,hy,hbl⟩|hD
    ·refine .inl ⟨fun k y hk hy=> ?_,by omega⟩
     have hy':(s.W.set i.toNat {x with black:=false,has:=false})[k]?= some y:=hy
     by_cases e:k=i.toNat
     ·subst e
      rw[List.getElem?_set_self hil]at hy'
      obtain rfl:=Option.some.inj hy'
      exact hidle
     ·rw[List.getElem?_set_ne (fun e'=>e e'.symm)]at hy'
      exact hA k y (by omega) hy'
    ·exact .inr (.inl (by omega))
    ·by_cases e:k=i.toNat
     ·subst e
      rw[hx]at hy
      obtain rfl:=Option.some.inj hy
      exact .inr (.inr (.inr (by rw[hbl];simp)))
     ·exact .inr (.inr (.inl ⟨k,y,by omega,by show(s.W.set i.toNat _)[k]?= some y;rw[List.getElem?_set_ne (fun e'=>e e'.symm)];exact hy,hbl⟩))
    ·exact .inr (.inr (.inr (by rw[hD];rfl)))
theorem RingOK.waves{n:Int}:∀(L:List Nat) (N:Nat) (s:RunS),RingOK s->Fine N s->s.answers≠ []->(∀k∈L,1<=k/\k < s.W.length)->RingOK (L.foldl (waveS n) s):=by
 intro L
 induction L with
 |nil=>exact fun N s ho _ _ _=>ho
 |cons k L ih=>
  intro N s ho h hne hL
  have hk:=hL k (List.mem_cons_self ..)
  have hw:=Fine.waves (n:=n) [k] N s h hne (fun k' h'=>by rw[List.mem_singleton.1 h'];exact hk)
  have hr:=sendS_rest s {msg0 with src:=0,dst:=k,kind:=6,round:=n}
  rw[List.foldl_cons]
  refine ih (N+1) _ (ho.send h (by show(0:Int).toNat < _;simp;omega) (by show(k:Int).toNat < _;simp;omega) ⟨by simp,by simp,by simp⟩) hw (by show(sendS s _).answers≠ [];rw[hr.1];exact hne) (fun k' h'=> ?_)
  have:=hL k' (List.mem_cons_of_mem _ h')
  refine⟨this.1,?_⟩
  show k' < (sendS s _).W.length
  rw[hr.2.1]
  exact this.2
theorem RingOK.check{N:Nat}{s:RunS}(ho:RingOK s)(h:Fine N s)(hN:N<=1000000000):RingOK (checkS s).1:=by
 have h2:=h.two
 have hl:=h.len
 unfold checkS
 split
 ·exact ho
 ·split
  ·unfold ringS
   split
   ·exact ho
   ·rename_i x hx
    split
    ·exact ho
    ·rename_i hc
     have hh:x.has=true:=by
      cases hb:x.has with
      |true=>rfl
      |false=>exact absurd (.inl hb) hc
     split
     ·exact ho.congr rfl rfl
     ·have hsW:=sendS_W {s with W:=s.W.set 0 {x with black:=false,has:=false}} {msg0 with src:=0,dst:=s.workers - 1,kind:=5} (by simp)
      refine ho.handOn h hx hh (m:={msg0 with src:=0,dst:=s.workers - 1,kind:=5}) rfl (by show(0:Int).toNat < _;simp;omega) (by show(s.workers - 1).toNat < _;omega) hsW (sendS_links_eq s _ _ rfl) ?_
      refine Safra.congr (s:={s with W:=s.W.set 0 {x with black:=false,has:=false}}) (.inl ⟨fun k y hk hy=> ?_,?_⟩) hsW
      ·have hkl:=(List.getElem?_eq_some_iff.1 hy).1
       simp at hkl
       have hk':(s.workers - 1).toNat < k:=hk
       omega
      ·show(0:Int)=beyond (s.workers - 1).toNat _
       unfold beyond
       rw[List.drop_eq_nil_of_le (by simp;omega)]
       rfl
  ·unfold wavesS
   split
   ·exact ho
   ·rename_i x hx
    have hxo:=h.works x (List.mem_of_getElem? hx)
    split
    ·exact ho
    ·split
     ·exact ho.congr rfl rfl
     ·have h3:Fine (N+1) {s with answers:=s.answers++ [⟨0,0,0,true⟩]}:=h.reans (by have:=h.alen;simp;omega) (by simp) (fun a ha=>by
       rcases List.mem_append.1 ha with e|e
       ·exact(h.ans a e).more (Nat.le_succ N)
       ·rw[List.mem_singleton.1 e];exact⟨by dsimp only;omega,by dsimp only;omega,by dsimp only;omega⟩) (Nat.le_succ N)
      have hsn:=hxo.sent
      have hcm:=hxo.came
      have h4:=h3.noted (a:=x.sent) (b:=x.came) true (by omega) (by omega)
      have hne:(notedS {s with answers:=s.answers++ [⟨0,0,0,true⟩]} x.sent x.came true).answers≠ []:=by
       unfold notedS
       split<;>simp
      have hwl:(notedS {s with answers:=s.answers++ [⟨0,0,0,true⟩]} x.sent x.came true).W.length=s.W.length:=by
       unfold notedS
       split<;>rfl
      have hon:RingOK (notedS {s with answers:=s.answers++ [⟨0,0,0,true⟩]} x.sent x.came true):=by
       unfold notedS
       split<;>exact ho.congr rfl rfl
      refine RingOK.waves (List.range' 1 (s.W.length - 1)) (N+1+1) _ hon h4 hne (fun k hk=> ?_)
      rw[hwl]
      have:=List.mem_range'_1.1 hk
      omega
theorem RingOK.all{s:RunS}{x:WorkerS}(ho:RingOK s)(hv:Even 0 s)(hx:s.W[0]?= some x)(hh:x.has=true)(hi:x.tasks=[])(hr:roundB s x=true):(∀y∈s.W,y.tasks=[])/\total works s=0:=by
 have hS:=ho.here 0 x hx hh
 unfold roundB at hr
 simp only[Bool.and_eq_true,Bool.not_eq_true',beq_iff_eq]at hr
 obtain⟨⟨⟨-,hb1⟩,hb2⟩,hz⟩:=hr
 have hu:upto 0 s=dif x:=by
  unfold upto
  rw[List.take_add_one,hx]
  simp
 have hdx:dif x=x.sent - x.came:=rfl
 have hall:=upto_beyond 0 s
 have he:=hv.eq
 rcases hS with⟨hA,hq⟩|hB|⟨k,y,hk,hy,hbl⟩|hD
 ·refine⟨fun y hy=> ?_,by omega⟩
  obtain⟨k,hk⟩:=List.getElem?_of_mem hy
  cases k with
  |zero=>
   rw[hx]at hk
   obtain rfl:=Option.some.inj hk
   exact hi
  |succ k=>exact hA (k+1) y (by omega) hk
 ·omega
 ·obtain rfl:k=0:=by omega
  rw[hx]at hy
  obtain rfl:=Option.some.inj hy
  rw[hb2]at hbl
  cases hbl
 ·rw[hb1]at hD
  cases hD
theorem total_new(f:MsgS->Nat)(workers room mode kind arg:Int)(ks:List KindS):total f (newS workers room mode ks kind arg)=0:=by
 have e2:∀n:Nat,((List.replicate n link0).map (linkSum f)).sum=0:=fun n=>by
  induction n with
  |zero=>rfl
  |succ n ih=>rw[List.replicate_succ,List.map_cons,List.sum_cons,ih];rfl
 have e3:∀n k:Nat,((List.replicate n (List.replicate k link0)).map fun ls=>(ls.map (linkSum f)).sum).sum=0:=fun n k=>by
  induction n with
  |zero=>rfl
  |succ n ih=>rw[List.replicate_succ,List.map_cons,List.sum_cons,ih,e2]
 unfold total newS
 exact e3 _ _
theorem RingOK.new{workers room mode kind arg:Int}{ks:List KindS}(hc:cfgB workers room mode=true)(hp:progB ks kind arg=true):RingOK (newS workers room mode ks kind arg):=by
 have hf:=Fine.new hc hp
 have e:∀n:Nat,((List.replicate n worker0).map hasN).sum=0:=fun n=>by
  induction n with
  |zero=>rfl
  |succ n ih=>rw[List.replicate_succ,List.map_cons,List.sum_cons,ih];rfl
 have ed:∀n:Nat,((List.replicate n worker0).map dif).sum=0:=fun n=>by
  induction n with
  |zero=>rfl
  |succ n ih=>rw[List.replicate_succ,List.map_cons,List.sum_cons,ih];rfl
 have hhas:held (newS workers room mode ks kind arg)=1:=by
  unfold held newS
  dsimp only
  rw[List.map_cons,List.sum_cons,e]
  rfl
 have hrest:∀k y,(newS workers room mode ks kind arg).W[k+1]?= some y->y=worker0:=fun k y hy=>by
  have hy':(List.replicate (workers.toNat - 1) worker0)[k]?= some y:=by simpa[newS]using hy
  exact List.eq_of_mem_replicate (List.mem_of_getElem? hy')
 refine⟨by rw[hhas,total_new];exact Nat.le_refl _,fun t x hx hb=> ?_,fun i j m hu hk=> ?_⟩
 ·cases t with
  |zero=>
   have hx':x={worker0 with tasks:=[⟨⟨#[]⟩,kind,arg⟩],has:=true}:=by
    have:some {worker0 with tasks:=[⟨⟨#[]⟩,kind,arg⟩],has:=true}=some x:=hx
    exact(Option.some.inj this).symm
   subst hx'
   refine .inl ⟨fun i y hi hy=> ?_,?_⟩
   ·cases i with
    |zero=>omega
    |succ i=>rw[hrest i y hy];rfl
   ·show(0:Int)=beyond 0 _
    unfold beyond newS
    dsimp only
    rw[List.drop_succ_cons,List.drop_zero,ed]
  |succ t=>rw[hrest t x hx]at hb;cases hb
 ·have:=hu.weigh hf.llen hf.lrow tok
  rw[total_new]at this
  have e:tok m=1:=if_pos hk
  omega
def f6(m:MsgS):Nat:=if m.kind=6 then 1 else 0
def f7(m:MsgS):Nat:=if m.kind=7 then 1 else 0
def fW(k:Nat)(m:MsgS):Nat:=if m.kind=6/\m.dst=(k:Int)then 1 else 0
def fS(m:MsgS):Nat:=if m.kind=7 then m.sent.toNat else 0
def fC(m:MsgS):Nat:=if m.kind=7 then m.came.toNat else 0
def fB(m:MsgS):Nat:=if m.kind=7/\m.idle=false then 1 else 0
def openSum(g:WorkerS->Int)(s:RunS):Int:=((List.range s.W.length).map fun k=>(total (fW k) s:Int)*g (s.W[k]?.getD worker0)).sum
def told(s:RunS)(b:AnsS):Int:=b.sent+total fS s+openSum (·.sent) s
def toldC(s:RunS)(b:AnsS):Int:=b.came+total fC s+openSum (·.came) s
def sumC(s:RunS):Int:=(s.W.map (·.came)).sum
def sumS(s:RunS):Int:=(s.W.map (·.sent)).sum
theorem sums_bal(s:RunS):sumS s - sumC s=bal s:=by
 unfold sumS sumC bal
 induction s.W with
 |nil=>rfl
 |cons a r ih=>simp only[List.map_cons,List.sum_cons];omega
def Quiet(s:RunS):Prop:=total works s=0/\∀k x,s.W[k]?= some x->total (fW k) s=0->x.tasks=[]
structure WavesOK(s:RunS):Prop where
 none:s.answers=[]->total f6 s=0/\total f7 s=0
 many:∀L b,s.answers=L++ [b]->b.many+total f6 s+total f7 s=s.workers
 one:∀k,total (fW k) s<=1
 came:∀L b,s.answers=L++ [b]->toldC s b<=sumC s
 low:∀L a b,s.answers=L++ [a,b]->a.came<=told s b
 good:∀L a b,s.answers=L++ [a,b]->a.came < told s b\/b.idle=false\/0 < total fB s\/Quiet s
 zero:total (fW 0) s=0
theorem range_diff{F F':Nat->Int}{i:Nat}:∀{n:Nat},i < n->(∀k,k≠i->F' k=F k)->((List.range n).map F').sum+F i=((List.range n).map F).sum+F' i:=by
 intro n
 induction n with
 |zero=>intro h;omega
 |succ n ih=>
  intro h hk
  rw[List.range_succ,List.map_append,List.map_append,List.sum_append,List.sum_append]
  simp only[List.map_cons,List.map_nil,List.sum_cons,List.sum_nil]
  by_cases e:i=n
  ·subst e
   have:(List.range i).map F'=(List.range i).map F:=List.map_congr_left (fun k hk'=>hk k (by have:=List.mem_range.1 hk';omega))
   rw[this]
   omega
  ·have:=ih (by omega) hk
   rw[hk n (fun h=>e h.symm)]
   omega
theorem range_same{F F':Nat->Int}{n:Nat}(h:∀k,k < n->F' k=F k):((List.range n).map F').sum=((List.range n).map F).sum:=by
 rw[List.map_congr_left (fun k hk=>h k (List.mem_range.1 hk))]
structure Keeps67(s s':RunS):Prop where
 answers:s'.answers=s.answers
 workers:s'.workers=s.workers
 tot:∀f:MsgS->Nat,(∀m,m.kind≠6->m.kind≠7->f m=0)->total f s'=total f s
theorem off6(m:MsgS)(h6:m.kind≠6)(_h7:m.kind≠7):f6 m=0:=if_neg h6
theorem off7(m:MsgS)(_h6:m.kind≠6)(h7:m.kind≠7):f7 m=0:=if_neg h7
theorem offW(k:Nat)(m:MsgS)(h6:m.kind≠6)(_h7:m.kind≠7):fW k m=0:=if_neg (fun h=>h6 h.1)
theorem offS(m:MsgS)(_h6:m.kind≠6)(h7:m.kind≠7):fS m=0:=if_neg h7
theorem offC(m:MsgS)(_h6:m.kind≠6)(h7:m.kind≠7):fC m=0:=if_neg h7
theorem offB(m:MsgS)(_h6:m.kind≠6)(h7:m.kind≠7):fB m=0:=if_neg (fun h=>h7 h.1)
theorem openSum_set(g:WorkerS->Int){s s':RunS}(hk:Keeps67 s s'){i:Nat}{x x':WorkerS}(hx:s.W[i]?= some x)(hW:s'.W=s.W.set i x'):openSum g s'=openSum g s+(total (fW i) s:Int)*(g x' - g x):=by
 have hil:=(List.getElem?_eq_some_iff.1 hx).1
 have hlen:s'.W.length=s.W.length:=by rw[hW,List.length_set]
 have h1:=range_diff (F:=fun k=>(total (fW k) s:Int)*g (s.W[k]?.getD worker0)) (F':=fun k=>(total (fW k) s':Int)*g (s'.W[k]?.getD worker0)) (i:=i) (n:=s.W.length) hil (fun k hki=>by
  rw[hk.tot _ (offW k),hW,List.getElem?_set_ne (fun e=>hki e.symm)])
 rw[hk.tot _ (offW i),hW,List.getElem?_set_self hil,hx,Option.getD_some,Option.getD_some]at h1
 unfold openSum
 rw[hlen]
 rw[hW]
 rw[Int.mul_sub]
 omega
theorem openSum_same(g:WorkerS->Int){s s':RunS}(hk:Keeps67 s s')(hW:s'.W=s.W):openSum g s'=openSum g s:=by
 unfold openSum
 rw[hW]
 exact range_same (fun k _=>by rw[hk.tot _ (offW k)])
theorem WavesOK.same{s s':RunS}(h:WavesOK s)(hk:Keeps67 s s')(hW:s'.W=s.W)(hw:total works s'=total works s):WavesOK s':=by
 have t1:∀b,told s' b=told s b:=fun b=>by unfold told;rw[hk.tot _ offS,openSum_same _ hk hW]
 have t2:∀b,toldC s' b=toldC s b:=fun b=>by unfold toldC;rw[hk.tot _ offC,openSum_same _ hk hW]
 refine⟨fun e=> ?_,fun L b e=> ?_,fun k=> ?_,fun L b e=> ?_,fun L a b e=> ?_,fun L a b e=> ?_,by rw[hk.tot _ (offW 0)];exact h.zero⟩
 ·rw[hk.tot _ off6,hk.tot _ off7];exact h.none (hk.answers ▸e)
 ·rw[hk.tot _ off6,hk.tot _ off7,hk.workers];exact h.many L b (hk.answers ▸e)
 ·rw[hk.tot _ (offW k)];exact h.one k
 ·rw[t2];unfold sumC;rw[hW];exact h.came L b (hk.answers ▸e)
 ·rw[t1];exact h.low L a b (hk.answers ▸e)
 ·rw[t1,hk.tot _ offB]
  rcases h.good L a b (hk.answers ▸e)with g|g|g|⟨g1,g2⟩
  ·exact .inl g
  ·exact .inr (.inl g)
  ·exact .inr (.inr (.inl g))
  ·exact .inr (.inr (.inr ⟨by rw[hw];exact g1,fun k x hx h0=>g2 k x (by rw[<-hW];exact hx) (by rw[<-hk.tot _ (offW k)];exact h0)⟩))
theorem WavesOK.reworker{s s':RunS}(h:WavesOK s)(hk:Keeps67 s s'){i:Nat}{x x':WorkerS}(hx:s.W[i]?= some x)(hW:s'.W=s.W.set i x')(hs:x.sent<=x'.sent)(hc:x.came<=x'.came)(hq:Quiet s->Quiet s'\/(0 < total (fW i) s/\x.sent < x'.sent)):WavesOK s':=by
 have hil:=(List.getElem?_eq_some_iff.1 hx).1
 have o1:=h.one i
 have eS:=openSum_set (·.sent) hk hx hW
 have eC:=openSum_set (·.came) hk hx hW
 have t1:∀b,told s' b=told s b+(total (fW i) s:Int)*(x'.sent - x.sent):=fun b=>by unfold told;rw[hk.tot _ offS,eS];omega
 have t2:∀b,toldC s' b=toldC s b+(total (fW i) s:Int)*(x'.came - x.came):=fun b=>by unfold toldC;rw[hk.tot _ offC,eC];omega
 have hm1:0<=(total (fW i) s:Int)*(x'.sent - x.sent):=Int.mul_nonneg (by omega) (by omega)
 have hm2:(total (fW i) s:Int)*(x'.came - x.came)<=x'.came - x.came:=by
  rcases Nat.eq_zero_or_pos (total (fW i) s)with e|e
  ·rw[e];simp;omega
  ·have e1:total (fW i) s=1:=by omega
   rw[e1];simp
 have hsum:sumC s'+x.came=sumC s+x'.came:=by
  unfold sumC
  rw[hW]
  exact isum_set (fun x:WorkerS=>x.came) s.W i x' x hx
 refine⟨fun e=> ?_,fun L b e=> ?_,fun k=> ?_,fun L b e=> ?_,fun L a b e=> ?_,fun L a b e=> ?_,by rw[hk.tot _ (offW 0)];exact h.zero⟩
 ·rw[hk.tot _ off6,hk.tot _ off7];exact h.none (hk.answers ▸e)
 ·rw[hk.tot _ off6,hk.tot _ off7,hk.workers];exact h.many L b (hk.answers ▸e)
 ·rw[hk.tot _ (offW k)];exact h.one k
 ·have:=h.came L b (hk.answers ▸e)
  rw[t2]
  omega
 ·have:=h.low L a b (hk.answers ▸e)
  rw[t1]
  omega
 ·have hlow:=h.low L a b (hk.answers ▸e)
  rw[t1,hk.tot _ offB]
  rcases h.good L a b (hk.answers ▸e)with g|g|g|g
  ·exact .inl (by omega)
  ·exact .inr (.inl g)
  ·exact .inr (.inr (.inl g))
  ·rcases hq g with g'|⟨g1,g2⟩
   ·exact .inr (.inr (.inr g'))
   ·refine .inl ?_
    have e1:total (fW i) s=1:=by omega
    rw[e1]
    omega
theorem Keeps67.trans{a b c:RunS}(h:Keeps67 a b)(k:Keeps67 b c):Keeps67 a c:=⟨k.answers.trans h.answers,k.workers.trans h.workers,fun f hf=>(k.tot f hf).trans (h.tot f hf)⟩
theorem Keeps67.send{N:Nat}{s:RunS}(hf:Fine N s){m:MsgS}(hi:m.src.toNat < s.W.length)(hj:m.dst.toNat < s.W.length)(hk:m.kind≠6/\m.kind≠7):Keeps67 s (sendS s m):=
 ⟨(sendS_rest s m).1,sendS_workers s m,fun f h0=>by
  obtain⟨n,hn⟩:=total_send f hf m hi hj
  exact hn.trans (Nat.add_eq_left.2 (h0 _ hk.1 hk.2))⟩
theorem quiet_set{s s':RunS}(hk:Keeps67 s s'){i:Nat}{x x':WorkerS}(hx:s.W[i]?= some x)(hW:s'.W=s.W.set i x')(ht:x.tasks=[]->x'.tasks=[])(hw:total works s'=total works s)(h:Quiet s):Quiet s':=by
 have hil:=(List.getElem?_eq_some_iff.1 hx).1
 refine⟨by rw[hw];exact h.1,fun k y hy h0=> ?_⟩
 rw[hk.tot _ (offW k)]at h0
 rw[hW]at hy
 by_cases e:k=i
 ·subst e
  rw[List.getElem?_set_self hil]at hy
  obtain rfl:=Option.some.inj hy
  exact ht (h.2 k x hx h0)
 ·rw[List.getElem?_set_ne (fun e'=>e e'.symm)]at hy
  exact h.2 k y hy h0
theorem WavesOK.send{N:Nat}{s:RunS}(h:WavesOK s)(hf:Fine N s){m:MsgS}(hi:m.src.toNat < s.W.length)(hj:m.dst.toNat < s.W.length)(hk:m.kind≠6/\m.kind≠7)(hk2:m.kind≠2/\m.kind≠4):WavesOK (sendS s m):=by
 refine h.same (Keeps67.send hf hi hj hk) (sendS_W s m (by omega)) ?_
 obtain⟨n,hn⟩:=total_send works hf m hi hj
 rw[hn]
 have:works {m with no:=n}=0:=if_neg (by show¬(m.kind=2\/m.kind=4);omega)
 omega
theorem WavesOK.sendWork{N:Nat}{s s1:RunS}(h:WavesOK s)(h1:Keeps67 s s1)(hW1:s1.W=s.W){i:Nat}{x y:WorkerS}(hx:s.W[i]?= some x)(hne:x.tasks≠ [])(hy:y.sent=x.sent/\y.came=x.came){m:MsgS}(hf:Fine N {s1 with W:=s1.W.set i y})(hi:m.src.toNat=i)(hj:m.dst.toNat < s.W.length)(hk:m.kind=2\/m.kind=4):WavesOK (sendS {s1 with W:=s1.W.set i y} m):=by
 have hil:=(List.getElem?_eq_some_iff.1 hx).1
 have hl1:(s1.W.set i y).length=s.W.length:=by rw[List.length_set,hW1]
 have k2:Keeps67 s1 {s1 with W:=s1.W.set i y}:=⟨rfl,rfl,fun f _=>total_congr f rfl⟩
 have k3:=Keeps67.send hf (m:=m) (by show m.src.toNat < (s1.W.set i y).length;omega) (by show m.dst.toNat < (s1.W.set i y).length;omega) (by omega)
 have hget:({s1 with W:=s1.W.set i y}:RunS).W[i]?= some y:=by
  show(s1.W.set i y)[i]?= some y
  rw[hW1];exact List.getElem?_set_self hil
 have hW:(sendS {s1 with W:=s1.W.set i y} m).W=s.W.set i {y with sent:=y.sent+1}:=by
  rw[sendS_W2 _ m hk,hi,hget,Option.getD_some]
  show(s1.W.set i y).set i _=_
  rw[List.set_set,hW1]
 refine h.reworker ((h1.trans k2).trans k3) hx hW (by dsimp only;omega) (by dsimp only;omega) (fun hq=> .inr ⟨?_,by dsimp only;omega⟩)
 rcases Nat.eq_zero_or_pos (total (fW i) s)with e|e
 ·exact absurd (hq.2 i x hx e) hne
 ·exact e
theorem openSum_less(g:WorkerS->Int){s s':RunS}{j:Nat}{x:WorkerS}(hx:s.W[j]?= some x)(hW:s'.W=s.W)(hj:total (fW j) s'+1=total (fW j) s)(ho:∀k,k≠j->total (fW k) s'=total (fW k) s):openSum g s'+g x=openSum g s:=by
 have hjl:=(List.getElem?_eq_some_iff.1 hx).1
 have h1:=range_diff (F:=fun k=>(total (fW k) s:Int)*g (s.W[k]?.getD worker0)) (F':=fun k=>(total (fW k) s':Int)*g (s.W[k]?.getD worker0)) (i:=j) (n:=s.W.length) hjl (fun k hkj=>by rw[ho k hkj])
 rw[hx,Option.getD_some]at h1
 have e:(total (fW j) s:Int)=(total (fW j) s':Int)+1:=by omega
 rw[e,Int.add_mul,Int.one_mul]at h1
 unfold openSum
 rw[hW]
 omega
theorem WavesOK.step{N:Nat}{s:RunS}{i j:Nat}{m:MsgS}(h:WavesOK s)(hf:Fine N s)(hi:i < s.W.length)(hj:j < s.W.length)(hg:(linkOf s i j).all[(linkOf s i j).came.toNat]?= some m)(hm:MsgOK s.ks (s.answers≠ []) N i j (linkOf s i j).came.toNat m)(hf1:Fine N (setLink s i j {linkOf s i j with came:=(linkOf s i j).came+1})):WavesOK (cameS (setLink s i j {linkOf s i j with came:=(linkOf s i j).came+1}) m):=by
 have st:∀f:MsgS->Nat,total f (setLink s i j {linkOf s i j with came:=(linkOf s i j).came+1})+f m=total f s:=fun f=>total_step f hf hi hj hg
 obtain⟨s1,hs1⟩:∃s1,setLink s i j {linkOf s i j with came:=(linkOf s i j).came+1}=s1:=⟨_,rfl⟩
 have hW1:s1.W=s.W:=by rw[<-hs1];rfl
 have hA1:s1.answers=s.answers:=by rw[<-hs1];rfl
 have hR1:s1.workers=s.workers:=by rw[<-hs1];rfl
 rw[hs1]at st hf1 ⊢
 have hs0:=hm.src
 have hd0:=hm.dst
 have ejn:m.dst.toNat=j:=by omega
 have hx:s.W[j]?= some (s.W[j]'hj):=List.getElem?_eq_getElem _
 have k1:m.kind≠6->m.kind≠7->Keeps67 s s1:=fun h6 h7=>⟨hA1,hR1,fun f h0=>by have:=st f;rw[h0 m h6 h7]at this;omega⟩
 unfold cameS
 dsimp only
 rw[ejn,hW1,hx,Option.getD_some]
 generalize s.W[j]'_=x at hx ⊢
 have hxo:=hf.works x (List.mem_of_getElem? hx)
 have hks:s1.ks=s.ks:=by rw[<-hs1];rfl
 have h2w:=hf.two
 have hlenw:=hf.len
 split
 ·rename_i h1
  have k:=k1 (by omega) (by omega)
  split
  ·have k2:=Keeps67.send hf1 (m:={msg0 with src:=m.dst,dst:=m.src,kind:=3}) (by show m.dst.toNat < _;rw[hW1];omega) (by show m.src.toNat < _;rw[hW1];omega) ⟨by simp,by simp⟩
   refine h.same (k.trans k2) ((sendS_W s1 _ (by simp)).trans hW1) ?_
   obtain⟨n,hn⟩:=total_send works hf1 {msg0 with src:=m.dst,dst:=m.src,kind:=3} (by show m.dst.toNat < _;rw[hW1];omega) (by show m.src.toNat < _;rw[hW1];omega)
   have e1:=st works
   have e2:works m=0:=if_neg (by omega)
   have e9:total works s1=total works s:=by omega
   exact(hn.trans (Nat.add_eq_left.2 rfl)).trans e9
  ·rename_i t r ht
   have hwk:WorkerOK s1.ks N {x with tasks:=r}:=by rw[hks];exact⟨by have:=hxo.few;rw[ht]at this;simp at this;dsimp only;omega,fun c hc=>hxo.good c (by rw[ht];exact List.mem_cons_of_mem _ hc),hxo.sent,hxo.came,hxo.tok⟩
   rw[<-hW1]
   exact h.sendWork k hW1 hx (by rw[ht];simp) (y:={x with tasks:=r}) ⟨rfl,rfl⟩ (hf1.reworker j hwk (Nat.le_refl _)) ejn (by show m.src.toNat < _;omega) (.inl rfl)
 ·split
  ·rename_i h2
   have k:=k1 (by omega) (by omega)
   have e1:=st works
   have e2:works m=1:=if_pos (.inl h2)
   refine h.reworker (s':={s1 with W:=s.W.set j {x with came:=x.came+1,black:=true,asked:=false,tasks:=x.tasks++ [m.t]}}) (k.trans ⟨rfl,rfl,fun f _=>total_congr f rfl⟩) hx rfl (Int.le_refl _) (by dsimp only;omega) (fun hq=> ?_)
   have:=hq.1
   omega
  ·split
   ·rename_i h3
    have k:=k1 (by omega) (by omega)
    have e1:=st works
    have e2:works m=0:=if_neg (by omega)
    have kk:Keeps67 s {s1 with W:=s.W.set j {x with asked:=false}}:=k.trans ⟨rfl,rfl,fun f _=>total_congr f rfl⟩
    refine h.reworker kk hx rfl (Int.le_refl _) (Int.le_refl _) (fun hq=> .inl (quiet_set kk hx rfl (fun e=>e) ?_ hq))
    have e9:total works s1=total works s:=by omega
    exact(total_congr works rfl).trans e9
   ·split
    ·rename_i h4
     have k:=k1 (by omega) (by omega)
     have e1:=st works
     have e2:works m=1:=if_pos (.inr h4)
     refine h.reworker (s':={s1 with W:=s.W.set j {x with came:=x.came+1,black:=true},values:=putS s1.values m.v}) (k.trans ⟨rfl,rfl,fun f _=>total_congr f rfl⟩) hx rfl (Int.le_refl _) (by dsimp only;omega) (fun hq=> ?_)
     have:=hq.1
     omega
    ·split
     ·rename_i h5
      have k:=k1 (by omega) (by omega)
      have e1:=st works
      have e2:works m=0:=if_neg (by omega)
      have kk:Keeps67 s {s1 with W:=s.W.set j {x with has:=true,token:=m},around:=s1.around||m.dst==0}:=k.trans ⟨rfl,rfl,fun f _=>total_congr f rfl⟩
      refine h.reworker kk hx rfl (Int.le_refl _) (Int.le_refl _) (fun hq=> .inl (quiet_set kk hx rfl (fun e=>e) ?_ hq))
      have e9:total works s1=total works s:=by omega
      exact(total_congr works rfl).trans e9
     ·split
      ·
       rename_i h6
       have hi1:({msg0 with src:=m.dst,dst:=0,kind:=7,round:=m.round,sent:=x.sent,came:=x.came,idle:=x.tasks.isEmpty}:MsgS).src.toNat < s1.W.length:=by show m.dst.toNat < _;rw[hW1];omega
       have hj1:({msg0 with src:=m.dst,dst:=0,kind:=7,round:=m.round,sent:=x.sent,came:=x.came,idle:=x.tasks.isEmpty}:MsgS).dst.toNat < s1.W.length:=by show(0:Int).toNat < _;rw[hW1];simp;omega
       have sd:∀f:MsgS->Nat,(∀(m':MsgS) (n:Int),f {m' with no:=n}=f m')->total f (sendS s1 {msg0 with src:=m.dst,dst:=0,kind:=7,round:=m.round,sent:=x.sent,came:=x.came,idle:=x.tasks.isEmpty})+f m=total f s+f {msg0 with src:=m.dst,dst:=0,kind:=7,round:=m.round,sent:=x.sent,came:=x.came,idle:=x.tasks.isEmpty}:=fun f hno=>by
        obtain⟨n,hn⟩:=total_send f hf1 _ hi1 hj1
        rw[hno]at hn
        have:=st f
        omega
       have hWs:=sendS_W s1 {msg0 with src:=m.dst,dst:=0,kind:=7,round:=m.round,sent:=x.sent,came:=x.came,idle:=x.tasks.isEmpty} (by simp)
       have hrs:=sendS_rest s1 {msg0 with src:=m.dst,dst:=0,kind:=7,round:=m.round,sent:=x.sent,came:=x.came,idle:=x.tasks.isEmpty}
       have hws:=sendS_workers s1 {msg0 with src:=m.dst,dst:=0,kind:=7,round:=m.round,sent:=x.sent,came:=x.came,idle:=x.tasks.isEmpty}
       obtain⟨s2,hs2⟩:∃s2,sendS s1 {msg0 with src:=m.dst,dst:=0,kind:=7,round:=m.round,sent:=x.sent,came:=x.came,idle:=x.tasks.isEmpty}=s2:=⟨_,rfl⟩
       rw[hs2]at sd hWs hrs hws ⊢
       have hA2:s2.answers=s.answers:=hrs.1.trans hA1
       have q6:=sd f6 (fun _ _=>rfl)
       have q7:=sd f7 (fun _ _=>rfl)
       have qS:=sd fS (fun _ _=>rfl)
       have qC:=sd fC (fun _ _=>rfl)
       have qB:=sd fB (fun _ _=>rfl)
       have qw:=sd works (fun _ _=>rfl)
       have qW:=fun k=>sd (fW k) (fun _ _=>rfl)
       have m6:f6 m=1:=if_pos h6
       have m7:f7 m=0:=if_neg (by omega)
       have mS:fS m=0:=if_neg (by omega)
       have mC:fC m=0:=if_neg (by omega)
       have mB:fB m=0:=if_neg (by omega)
       have mw:works m=0:=if_neg (by omega)
       have mWj:fW j m=1:=if_pos ⟨h6,hd0⟩
       have mWk:∀k,k≠j->fW k m=0:=fun k hk=>if_neg (by omega)
       have r6:f6 {msg0 with src:=m.dst,dst:=0,kind:=7,round:=m.round,sent:=x.sent,came:=x.came,idle:=x.tasks.isEmpty}=0:=rfl
       have r7:f7 {msg0 with src:=m.dst,dst:=0,kind:=7,round:=m.round,sent:=x.sent,came:=x.came,idle:=x.tasks.isEmpty}=1:=rfl
       have rS:fS {msg0 with src:=m.dst,dst:=0,kind:=7,round:=m.round,sent:=x.sent,came:=x.came,idle:=x.tasks.isEmpty}=x.sent.toNat:=rfl
       have rC:fC {msg0 with src:=m.dst,dst:=0,kind:=7,round:=m.round,sent:=x.sent,came:=x.came,idle:=x.tasks.isEmpty}=x.came.toNat:=rfl
       have rw':works {msg0 with src:=m.dst,dst:=0,kind:=7,round:=m.round,sent:=x.sent,came:=x.came,idle:=x.tasks.isEmpty}=0:=rfl
       have rW:∀k,fW k {msg0 with src:=m.dst,dst:=0,kind:=7,round:=m.round,sent:=x.sent,came:=x.came,idle:=x.tasks.isEmpty}=0:=fun k=>if_neg (by simp)
       have hWW:s2.W=s.W:=hWs.trans hW1
       have wj:total (fW j) s2+1=total (fW j) s:=by have:=qW j;rw[rW,mWj]at this;omega
       have wk:∀k,k≠j->total (fW k) s2=total (fW k) s:=fun k hk=>by have:=qW k;rw[rW,mWk k hk]at this;omega
       have oS:=openSum_less (·.sent) hx hWW wj wk
       have oC:=openSum_less (·.came) hx hWW wj wk
       have hsn:=hxo.sent
       have hcn:=hxo.came
       have tS:∀b,told s2 b=told s b:=fun b=>by unfold told;omega
       have tC:∀b,toldC s2 b=toldC s b:=fun b=>by unfold toldC;omega
       refine⟨fun e=> ?_,fun L b e=> ?_,fun k=> ?_,fun L b e=> ?_,fun L a b e=> ?_,fun L a b e=> ?_,by
        have hz:=h.zero
        by_cases e:j=0
        ·subst e;omega
        ·rw[wk 0 (fun e'=>e e'.symm)];exact hz⟩
       ·have:=(h.none (hA2 ▸e)).1
        omega
       ·have:=h.many L b (hA2 ▸e)
        rw[hws,hR1]
        omega
       ·by_cases e:k=j
        ·subst e;have:=h.one k;omega
        ·rw[wk k e];exact h.one k
       ·rw[tC];unfold sumC;rw[hWW];exact h.came L b (hA2 ▸e)
       ·rw[tS];exact h.low L a b (hA2 ▸e)
       ·rw[tS]
        rcases h.good L a b (hA2 ▸e)with g|g|g|g
        ·exact .inl g
        ·exact .inr (.inl g)
        ·exact .inr (.inr (.inl (by omega)))
        ·by_cases ht:x.tasks=[]
         ·refine .inr (.inr (.inr ⟨by have:=g.1;omega,fun k y hy h0=> ?_⟩))
          rw[hWW]at hy
          by_cases e:k=j
          ·subst e
           rw[hx]at hy
           obtain rfl:=Option.some.inj hy
           exact ht
          ·exact g.2 k y hy (by rw[<-wk k e];exact h0)
         ·refine .inr (.inr (.inl ?_))
          have rB:fB {msg0 with src:=m.dst,dst:=0,kind:=7,round:=m.round,sent:=x.sent,came:=x.came,idle:=x.tasks.isEmpty}=1:=if_pos ⟨rfl,by
           show x.tasks.isEmpty=false
           cases hz:x.tasks with
           |nil=>exact absurd hz ht
           |cons a b=>rfl⟩
          omega
      ·split
       ·
        rename_i h6 h7
        have hne:s.answers≠ []:=hm.told (.inr h7)
        obtain⟨L0,b0,hL0⟩:∃L0 b0,s.answers=L0++ [b0]:=by
         rcases List.eq_nil_or_concat s.answers with e|⟨L,b,e⟩
         ·exact absurd e hne
         ·exact⟨L,b,by rw[e,List.concat_eq_append]⟩
        have hnum:=hm.nums
        have hno:notedS s1 m.sent m.came m.idle={s1 with answers:=L0++ [⟨b0.many+1,b0.sent+m.sent,b0.came+m.came,b0.idle&&m.idle⟩]}:=by
         unfold notedS
         rw[hA1,hL0,List.getLast?_append,List.getLast?_singleton,Option.some_or,List.dropLast_concat]
        rw[hno]
        have tt:∀f:MsgS->Nat,total f {s1 with answers:=L0++ [⟨b0.many+1,b0.sent+m.sent,b0.came+m.came,b0.idle&&m.idle⟩]}+f m=total f s:=fun f=>(congrArg (·+ f m) (total_congr f rfl)).trans (st f)
        obtain⟨s2,hs2⟩:∃s2:RunS,{s1 with answers:=L0++ [⟨b0.many+1,b0.sent+m.sent,b0.came+m.came,b0.idle&&m.idle⟩]}=s2:=⟨_,rfl⟩
        have hWW:s2.W=s.W:=by rw[<-hs2];exact hW1
        have hRR:s2.workers=s.workers:=by rw[<-hs2];exact hR1
        have hAA:s2.answers=L0++ [⟨b0.many+1,b0.sent+m.sent,b0.came+m.came,b0.idle&&m.idle⟩]:=by rw[<-hs2]
        rw[hs2]at tt ⊢
        have q6:=tt f6
        have q7:=tt f7
        have qS:=tt fS
        have qC:=tt fC
        have qB:=tt fB
        have qw:=tt works
        have m6:f6 m=0:=if_neg (by omega)
        have m7:f7 m=1:=if_pos h7
        have mS:fS m=m.sent.toNat:=if_pos h7
        have mC:fC m=m.came.toNat:=if_pos h7
        have mw:works m=0:=if_neg (by omega)
        have wk:∀k,total (fW k) s2=total (fW k) s:=fun k=>by
         have e:fW k m=0:=if_neg (fun e=>h6 e.1)
         have:=tt (fW k)
         omega
        have os:∀g:WorkerS->Int,openSum g s2=openSum g s:=fun g=>by
         unfold openSum
         rw[hWW]
         exact range_same (fun k _=>by rw[wk k])
        have tS:told s2 ⟨b0.many+1,b0.sent+m.sent,b0.came+m.came,b0.idle&&m.idle⟩=told s b0:=by unfold told;rw[os];dsimp only;omega
        have tC:toldC s2 ⟨b0.many+1,b0.sent+m.sent,b0.came+m.came,b0.idle&&m.idle⟩=toldC s b0:=by unfold toldC;rw[os];dsimp only;omega
        have last1:∀L b,s2.answers=L++ [b]->L=L0/\b=⟨b0.many+1,b0.sent+m.sent,b0.came+m.came,b0.idle&&m.idle⟩:=fun L b e=>by
         rw[hAA]at e
         have:=List.append_inj' e rfl
         exact⟨this.1.symm,by have:=this.2;simp at this;exact this.symm⟩
        have last2:∀L a b,s2.answers=L++ [a,b]->s.answers=L++ [a,b0]/\b=⟨b0.many+1,b0.sent+m.sent,b0.came+m.came,b0.idle&&m.idle⟩:=fun L a b e=>by
         have e':s2.answers=(L++ [a])++ [b]:=by rw[e];simp
         obtain⟨e1,e2⟩:=last1 _ _ e'
         exact⟨by rw[hL0,<-e1];simp,e2⟩
        refine⟨fun e=>by rw[hAA]at e;simp at e,fun L b e=> ?_,fun k=>by rw[wk];exact h.one k,fun L b e=> ?_,fun L a b e=> ?_,fun L a b e=> ?_,by rw[wk];exact h.zero⟩
        ·obtain⟨-,rfl⟩:=last1 L b e
         have:=h.many L0 b0 hL0
         rw[hRR]
         dsimp only
         omega
        ·obtain⟨-,rfl⟩:=last1 L b e
         rw[tC];unfold sumC;rw[hWW];exact h.came L0 b0 hL0
        ·obtain⟨e1,rfl⟩:=last2 L a b e
         rw[tS];exact h.low L a b0 e1
        ·obtain⟨e1,rfl⟩:=last2 L a b e
         rw[tS]
         rcases h.good L a b0 e1 with g|g|g|g
         ·exact .inl g
         ·exact .inr (.inl (by dsimp only;rw[g];rfl))
         ·cases hid:m.idle with
          |false=>exact .inr (.inl (by simp))
          |true=>
           have mB:fB m=0:=if_neg (by rw[hid];simp)
           exact .inr (.inr (.inl (by omega)))
         ·exact .inr (.inr (.inr ⟨by have:=g.1;omega,fun k y hy h0=>g.2 k y (by rw[<-hWW];exact hy) (by rw[<-wk k];exact h0)⟩))
       ·rename_i h1 h2 h3 h4 h5 h6 h7
        have:=hm.kind
        omega
theorem Keeps67.refl(s:RunS):Keeps67 s s:=⟨rfl,rfl,fun _ _=>rfl⟩
theorem Same.keeps{s s':RunS}(e:Same s s'):Keeps67 s s':=⟨e.answers,e.workers,fun f _=>e.shape.2 f⟩
theorem WavesOK.deliver{N:Nat}{s:RunS}(h:WavesOK s)(hf:Fine N s)(hN:N+5<=90000000)(k:Int):WavesOK (deliverS s k).1:=
 deliver_ind (P:=WavesOK) (fun _ _ e hP=>hP.same e.keeps e.W (e.shape.2 works)) (fun _ _ _ _ _ hf _ hi hj hg hm hf1 hP=>hP.step hf hi hj hg hm hf1) h hf hN k
theorem WavesOK.work{N:Nat}{s:RunS}(ho:WavesOK s)(h:Fine N s)(i:Int):WavesOK (workS s i).1:=by
 unfold workS
 split
 ·exact ho
 ·rename_i hw
  obtain⟨h0,hlt⟩:=workerE_range hw
  obtain⟨hil,hie⟩:=h.nat h0 hlt
  split
  ·exact ho
  ·rename_i x hx
   have hxo:=h.works x (List.mem_of_getElem? hx)
   split
   ·exact ho
   ·rename_i t ht
    have htm:t∈x.tasks:=List.mem_of_getLast? ht
    have htn:x.tasks≠ []:=fun e=>by rw[e]at htm;simp at htm
    split
    ·exact ho.same ⟨rfl,rfl,fun f _=>total_congr f rfl⟩ rfl (total_congr works rfl)
    ·rename_i hroom
     dsimp only
     split
     ·rename_i hi0
      subst hi0
      refine ho.reworker (s':={s with W:=s.W.set (0:Int).toNat {x with tasks:=x.tasks.dropLast++children s.ks t},values:=putS s.values (t.id,valueOf s.ks t)}) ⟨rfl,rfl,fun f _=>total_congr f rfl⟩ hx rfl (Int.le_refl _) (Int.le_refl _) (fun hq=> ?_)
      exact absurd (hq.2 0 x hx ho.zero) htn
     ·have hne:x.tasks.length≠0:=fun e=>by rw[List.length_eq_zero_iff]at e;exact htn e
      have hwk:WorkerOK s.ks N {x with tasks:=x.tasks.dropLast++children s.ks t}:=by
       refine⟨?_,fun c hc=> ?_,hxo.sent,hxo.came,hxo.tok⟩
       ·have:=h.rmax
        simp
        omega
       ·rcases List.mem_append.1 hc with e|e
        ·exact hxo.good c ((List.dropLast_sublist _).subset e)
        ·exact childrenFrom_good h.prog (hxo.good t htm) c e
      have h2:=h.two
      have hlen:=h.len
      exact ho.sendWork (Keeps67.refl s) rfl hx htn (y:={x with tasks:=x.tasks.dropLast++children s.ks t}) ⟨rfl,rfl⟩ (h.reworker i.toNat hwk (Nat.le_refl _)) rfl (by show(0:Int).toNat < _;simp;omega) (.inr rfl)
theorem WavesOK.reflag{s:RunS}(ho:WavesOK s){i:Nat}{x x':WorkerS}(hx:s.W[i]?= some x)(h:x'.sent=x.sent/\x'.came=x.came/\x'.tasks=x.tasks):WavesOK {s with W:=s.W.set i x'}:=by
 have kk:Keeps67 s {s with W:=s.W.set i x'}:=⟨rfl,rfl,fun f _=>total_congr f rfl⟩
 exact ho.reworker kk hx rfl (by omega) (by omega) (fun hq=> .inl (quiet_set kk hx rfl (fun e=>by rw[h.2.2];exact e) (total_congr works rfl) hq))
theorem WavesOK.steal{N:Nat}{s:RunS}(ho:WavesOK s)(h:Fine N s)(i v:Int):WavesOK (stealS s i v).1:=by
 unfold stealS
 split
 ·exact ho
 ·rename_i hi
  split
  ·exact ho
  ·rename_i hv
   split
   ·exact ho
   ·obtain⟨hi0,hi1⟩:=workerE_range hi
    obtain⟨hv0,hv1⟩:=workerE_range hv
    obtain⟨hil,hie⟩:=h.nat hi0 hi1
    obtain⟨hvl,hve⟩:=h.nat hv0 hv1
    split
    ·exact ho
    ·rename_i x hx
     have hxo:=h.works x (List.mem_of_getElem? hx)
     split
     ·exact ho
     ·exact WavesOK.send (N:=N) (ho.reflag hx (x':={x with asked:=true}) ⟨rfl,rfl,rfl⟩) (h.reworker i.toNat (x:={x with asked:=true}) ⟨hxo.few,hxo.good,hxo.sent,hxo.came,hxo.tok⟩ (Nat.le_refl _)) (by simpa using hil) (by simpa using hvl) ⟨by simp,by simp⟩ ⟨by simp,by simp⟩
theorem WavesOK.pass{N:Nat}{s:RunS}(ho:WavesOK s)(h:Fine N s)(i:Int):WavesOK (passS s i).1:=by
 unfold passS
 split
 ·exact ho
 ·rename_i hw
  obtain⟨h0,hlt⟩:=workerE_range hw
  obtain⟨hil,hie⟩:=h.nat h0 hlt
  split
  ·exact ho
  ·rename_i x hx
   split
   ·exact ho
   ·rename_i hc
    have hi0:i≠0:=fun e=>hc (.inr (.inl e))
    have h1:=ho.send h (m:={msg0 with src:=i,dst:=i - 1,kind:=5,count:=x.token.count+x.sent - x.came,black:=x.token.black||x.black}) hil (by show(i - 1).toNat < _;omega) ⟨by simp,by simp⟩ ⟨by simp,by simp⟩
    have hsW:=sendS_W s {msg0 with src:=i,dst:=i - 1,kind:=5,count:=x.token.count+x.sent - x.came,black:=x.token.black||x.black} (by simp)
    exact h1.reflag (i:=i.toNat) (x:=x) (by rw[hsW];exact hx) ⟨rfl,rfl,rfl⟩
theorem waves_total{r:Int}(f:MsgS->Nat)(hno:∀(m:MsgS) (n:Int),f {m with no:=n}=f m):∀(L:List Nat) (N:Nat) (s:RunS),Fine N s->s.answers≠ []->(∀k∈L,1<=k/\k < s.W.length)->total f (L.foldl (waveS r) s)=total f s+(L.map fun(k:Nat)=>f {msg0 with src:=0,dst:=(k:Int),kind:=6,round:=r}).sum:=by
 intro L
 induction L with
 |nil=>intro N s _ _ _;simp
 |cons k L ih=>
  intro N s h hne hL
  have hk:=hL k (List.mem_cons_self ..)
  have hw:=Fine.waves (n:=r) [k] N s h hne (fun k' h'=>by rw[List.mem_singleton.1 h'];exact hk)
  have hr:=sendS_rest s {msg0 with src:=0,dst:=(k:Int),kind:=6,round:=r}
  obtain⟨n,hn⟩:=total_send f h {msg0 with src:=0,dst:=(k:Int),kind:=6,round:=r} (by show(0:Int).toNat < _;simp;omega) (by show(k:Int).toNat < _;simp;omega)
  rw[hno]at hn
  rw[List.foldl_cons,List.map_cons,List.sum_cons]
  have h9:=ih (N+1) (waveS r s k) hw (by show(sendS s _).answers≠ [];rw[hr.1];exact hne) (fun k' h'=>by
   have:=hL k' (List.mem_cons_of_mem _ h')
   refine⟨this.1,?_⟩
   show k' < (sendS s _).W.length
   rw[hr.2.1]
   exact this.2)
  rw[h9]
  have e:total f (waveS r s k)=total f s+f {msg0 with src:=0,dst:=(k:Int),kind:=6,round:=r}:=hn
  rw[e]
  omega
theorem waves_rest{r:Int}:∀(L:List Nat) (s:RunS),(L.foldl (waveS r) s).W=s.W/\(L.foldl (waveS r) s).answers=s.answers/\(L.foldl (waveS r) s).workers=s.workers:=by
 intro L
 induction L with
 |nil=>exact fun s=>⟨rfl,rfl,rfl⟩
 |cons k L ih=>
  intro s
  rw[List.foldl_cons]
  obtain⟨h1,h2,h3⟩:=ih (waveS r s k)
  exact⟨h1.trans (sendS_W s _ (by simp)),h2.trans (sendS_rest s _).1,h3.trans (sendS_workers s _)⟩
theorem sum_one(k:Nat):∀(n a:Nat),((List.range' a n).map fun(i:Nat)=>if i=k then 1 else 0).sum=if a<=k/\k < a+n then 1 else 0:=by
 intro n
 induction n with
 |zero=>intro a;rw[if_neg (by omega)];rfl
 |succ n ih=>
  intro a
  rw[List.range'_succ,List.map_cons,List.sum_cons,ih (a+1)]
  by_cases h1:a=k
  ·rw[if_pos h1,if_neg (by omega),if_pos (by omega)]
  ·rw[if_neg h1]
   by_cases h2:a+1<=k/\k < a+1+n
   ·rw[if_pos h2,if_pos (by omega)]
   ·rw[if_neg h2,if_neg (by omega)]
theorem sum_const{α:Type}:∀(l:List α) (g:α->Nat) (c:Nat),(∀a∈l,g a=c)->(l.map g).sum=l.length*c:=by
 intro l
 induction l with
 |nil=>intro g c _;simp
 |cons a l ih=>
  intro g c h
  rw[List.map_cons,List.sum_cons,h a (List.mem_cons_self ..),ih g c (fun b hb=>h b (List.mem_cons_of_mem _ hb)),List.length_cons,Nat.succ_mul]
  omega
theorem range_all(g:WorkerS->Int):∀l:List WorkerS,((List.range l.length).map fun k=>g (l[k]?.getD worker0)).sum=(l.map g).sum:=by
 intro l
 have:(List.range l.length).map (fun k=>g (l[k]?.getD worker0))=l.map g:=by
  refine List.ext_getElem? fun k=> ?_
  rw[List.getElem?_map,List.getElem?_map]
  rcases Nat.lt_or_ge k l.length with h|h
  ·rw[List.getElem?_range h]
   simp[List.getElem?_eq_getElem h]
  ·rw[List.getElem?_eq_none (by simpa using h),List.getElem?_eq_none h]
   rfl
 rw[this]
theorem zero_of{s:RunS}(z6:total f6 s=0)(z7:total f7 s=0)(f:MsgS->Nat)(hf:∀m,f6 m=0->f7 m=0->f m=0):total f s=0:=by
 have h9:∀l:List MsgS,(l.map f6).sum=0->(l.map f7).sum=0->(l.map f).sum=0:=fun l=>by
  induction l with
  |nil=>intro _ _;rfl
  |cons a l ih=>
   intro a1 a2
   simp only[List.map_cons,List.sum_cons]at a1 a2 ⊢
   have:=hf a (by omega) (by omega)
   have:=ih (by omega) (by omega)
   omega
 have h8:∀ls:List LinkS,(ls.map (linkSum f6)).sum=0->(ls.map (linkSum f7)).sum=0->(ls.map (linkSum f)).sum=0:=fun ls=>by
  induction ls with
  |nil=>intro _ _;rfl
  |cons a l ih=>
   intro a1 a2
   simp only[List.map_cons,List.sum_cons]at a1 a2 ⊢
   have h5:=h9 (a.all.drop a.came.toNat) (show linkSum f6 a=0 by omega) (show linkSum f7 a=0 by omega)
   have h6:linkSum f a=0:=h5
   have:=ih (by omega) (by omega)
   omega
 have h7:∀L:List (List LinkS),(L.map fun ls=>(ls.map (linkSum f6)).sum).sum=0->(L.map fun ls=>(ls.map (linkSum f7)).sum).sum=0->(L.map fun ls=>(ls.map (linkSum f)).sum).sum=0:=fun L=>by
  induction L with
  |nil=>intro _ _;rfl
  |cons a l ih=>
   intro a1 a2
   simp only[List.map_cons,List.sum_cons]at a1 a2 ⊢
   have:=h8 a (by omega) (by omega)
   have:=ih (by omega) (by omega)
   omega
 exact h7 s.links z6 z7
theorem openSum_zero(g:WorkerS->Int){s:RunS}(zW:∀k,total (fW k) s=0):openSum g s=0:=by
 unfold openSum
 have:((List.range s.W.length).map fun k=>(total (fW k) s:Int)*g (s.W[k]?.getD worker0)).sum=((List.range s.W.length).map fun _=>(0:Int)).sum:=range_same (fun k _=>by rw[zW k];simp)
 rw[this]
 generalize s.W.length=n
 induction n with
 |zero=>rfl
 |succ n ih=>rw[List.range_succ,List.map_append,List.sum_append,ih];rfl
structure Begins(s s2:RunS)(x:WorkerS):Prop where
 none:total f6 s=0/\total f7 s=0
 W:s2.W=s.W
 workers:s2.workers=s.workers
 answers:s2.answers=s.answers++ [⟨1,x.sent,x.came,true⟩]
 six:total f6 s2=s.W.length - 1
 seven:total f7 s2=0
 works:total works s2=total works s
 each:∀k,total (fW k) s2=if 1<=k/\k < s.W.length then 1 else 0
 told:told s2 ⟨1,x.sent,x.came,true⟩=sumS s
 toldC:toldC s2 ⟨1,x.sent,x.came,true⟩=sumC s
 busy:total fB s2=0
theorem waves_begin{N:Nat}{s:RunS}(ho:WavesOK s)(h:Fine N s)(hN:N<=1000000000){x:WorkerS}(hx:s.W[0]?= some x)(hop:openB s=false):Begins s ((List.range' 1 (s.W.length - 1)).foldl (waveS (s.answers.length+1)) (notedS {s with answers:=s.answers++ [⟨0,0,0,true⟩]} x.sent x.came true)) x:=by
 have h2:=h.two
 have hlw:=h.len
 have hxo:=h.works x (List.mem_of_getElem? hx)
 have hsn:=hxo.sent
 have hcn:=hxo.came
 have hno:notedS {s with answers:=s.answers++ [⟨0,0,0,true⟩]} x.sent x.came true={s with answers:=s.answers++ [⟨1,x.sent,x.came,true⟩]}:=by
  unfold notedS
  dsimp only
  rw[List.getLast?_append,List.getLast?_singleton,Option.some_or,List.dropLast_concat]
  simp
 have h3:Fine (N+1) {s with answers:=s.answers++ [⟨0,0,0,true⟩]}:=h.reans (by have:=h.alen;simp;omega) (by simp) (fun a ha=>by
  rcases List.mem_append.1 ha with e|e
  ·exact(h.ans a e).more (Nat.le_succ N)
  ·rw[List.mem_singleton.1 e];exact⟨by dsimp only;omega,by dsimp only;omega,by dsimp only;omega⟩) (Nat.le_succ N)
 have h4:=h3.noted (a:=x.sent) (b:=x.came) true (by omega) (by omega)
 rw[hno]at h4 ⊢
 obtain⟨s0,hs0⟩:∃s0:RunS,{s with answers:=s.answers++ [⟨1,x.sent,x.came,true⟩]}=s0:=⟨_,rfl⟩
 have hW0:s0.W=s.W:=by rw[<-hs0]
 have hA0:s0.answers=s.answers++ [⟨1,x.sent,x.came,true⟩]:=by rw[<-hs0]
 have hR0:s0.workers=s.workers:=by rw[<-hs0]
 have hT0:∀f,total f s0=total f s:=fun f=>by rw[<-hs0];exact total_congr f rfl
 rw[hs0]at h4 ⊢
 have hL:∀k∈List.range' 1 (s.W.length - 1),1<=k/\k < s0.W.length:=fun k hk=>by
  have:=List.mem_range'_1.1 hk
  rw[hW0]
  omega
 obtain⟨r1,r2,r3⟩:=waves_rest (r:=s.answers.length+1) (List.range' 1 (s.W.length - 1)) s0
 have wt:=fun f hno=>waves_total (r:=s.answers.length+1) f hno (List.range' 1 (s.W.length - 1)) _ s0 h4 (by rw[hA0];simp) hL
 obtain⟨s2,hs2⟩:∃s2,(List.range' 1 (s.W.length - 1)).foldl (waveS (s.answers.length+1)) s0=s2:=⟨_,rfl⟩
 rw[hs2]at r1 r2 r3 wt ⊢
 have hz:total f6 s=0/\total f7 s=0:=by
  rcases List.eq_nil_or_concat s.answers with e|⟨L,b,e⟩
  ·exact ho.none e
  ·rw[List.concat_eq_append]at e
   have hm:=ho.many L b e
   unfold openB at hop
   rw[e,List.getLast?_append,List.getLast?_singleton,Option.some_or]at hop
   have:¬b.many < s.workers:=by simpa using hop
   omega
 have n6:∀m,f6 m=0->¬m.kind=6:=fun m e h6=>by unfold f6 at e;rw[if_pos h6]at e;cases e
 have n7:∀m,f7 m=0->¬m.kind=7:=fun m e h7=>by unfold f7 at e;rw[if_pos h7]at e;cases e
 have zS:total fS s=0:=zero_of hz.1 hz.2 fS (fun m _ e=>if_neg (n7 m e))
 have zC:total fC s=0:=zero_of hz.1 hz.2 fC (fun m _ e=>if_neg (n7 m e))
 have zW:∀k,total (fW k) s=0:=fun k=>zero_of hz.1 hz.2 (fW k) (fun m e _=>if_neg (fun h=>n6 m e h.1))
 have wc:∀(f:MsgS->Nat) (c:Nat),(∀(m:MsgS) (n:Int),f {m with no:=n}=f m)->(∀k:Nat,f {msg0 with src:=0,dst:=(k:Int),kind:=6,round:=(s.answers.length:Int)+1}=c)->total f s2=total f s+(s.W.length - 1)*c:=fun f c h1 h2=>by
  have h3:=wt f h1
  rw[hT0]at h3
  have h4:=sum_const (List.range' 1 (s.W.length - 1)) (fun(k:Nat)=>f {msg0 with src:=0,dst:=(k:Int),kind:=6,round:=(s.answers.length:Int)+1}) c (fun k _=>h2 k)
  rw[List.length_range']at h4
  exact h3.trans (congrArg (total f s+ ·) h4)
 have q6:total f6 s2=s.W.length - 1:=by
  have:=wc f6 1 (fun _ _=>rfl) (fun _=>rfl)
  omega
 have q7:total f7 s2=0:=by
  have:=wc f7 0 (fun _ _=>rfl) (fun _=>rfl)
  omega
 have qS:total fS s2=0:=by
  have:=wc fS 0 (fun _ _=>rfl) (fun _=>rfl)
  omega
 have qC:total fC s2=0:=by
  have:=wc fC 0 (fun _ _=>rfl) (fun _=>rfl)
  omega
 have qw:total works s2=total works s:=by
  have:=wc works 0 (fun _ _=>rfl) (fun _=>rfl)
  omega
 have qW:∀k,total (fW k) s2=if 1<=k/\k < s.W.length then 1 else 0:=fun k=>by
  have:=wt (fW k) (fun _ _=>rfl)
  rw[hT0,zW]at this
  have e:((List.range' 1 (s.W.length - 1)).map (fun(i:Nat)=>fW k {msg0 with src:=0,dst:=(i:Int),kind:=6,round:=(s.answers.length:Int)+1})).sum=((List.range' 1 (s.W.length - 1)).map (fun(i:Nat)=>if i=k then 1 else 0)).sum:=by
   refine congrArg List.sum (List.map_congr_left (fun i _=> ?_))
   unfold fW
   by_cases hik:i=k
   ·rw[if_pos ⟨rfl,by show(i:Int)=k;omega⟩,if_pos hik]
   ·rw[if_neg (fun h=>hik (by have:(i:Int)=k:=h.2;omega)),if_neg hik]
  replace this:=this.trans (congrArg (0+ ·) (e.trans (sum_one k _ 1)))
  rw[this,Nat.zero_add]
  by_cases h9:1<=k/\k < s.W.length
  ·rw[if_pos (by omega),if_pos h9]
  ·rw[if_neg (by omega),if_neg h9]
 have hWW:s2.W=s.W:=r1.trans hW0
 have hRR:s2.workers=s.workers:=r3.trans hR0
 have hAA:s2.answers=s.answers++ [⟨1,x.sent,x.came,true⟩]:=r2.trans hA0
 have op:∀g:WorkerS->Int,openSum g s2+g x=(s.W.map g).sum:=fun g=>by
  have h1:=range_diff (F:=fun k=>(if k < s.W.length then(1:Int)else 0)*g (s.W[k]?.getD worker0)) (F':=fun k=>(total (fW k) s2:Int)*g (s.W[k]?.getD worker0)) (i:=0) (n:=s.W.length) (by omega) (fun k hk=>by
   rw[qW k]
   by_cases h9:k < s.W.length
   ·rw[if_pos ⟨by omega,h9⟩,if_pos h9];rfl
   ·rw[if_neg (fun h=>h9 h.2),if_neg h9];rfl)
  have z0:total (fW 0) s2=0:=by rw[qW,if_neg (by omega)]
  have p0:(if 0 < s.W.length then(1:Int)else 0)=1:=if_pos (by omega)
  rw[z0,p0,hx,Option.getD_some,Int.one_mul]at h1
  have h5:((List.range s.W.length).map fun k=>(if k < s.W.length then(1:Int)else 0)*g (s.W[k]?.getD worker0)).sum=(s.W.map g).sum:=by
   rw[<-range_all g s.W]
   exact range_same (fun k hk=>by rw[if_pos hk,Int.one_mul])
  unfold openSum
  rw[hWW]
  have h6:((0:Nat):Int)*g x=0:=by simp
  omega
 have o1:=op (·.sent)
 have o2:=op (·.came)
 have hSS:sumS s=(s.W.map (·.sent)).sum:=rfl
 have hCC:sumC s=(s.W.map (·.came)).sum:=rfl
 have tS:told s2 ⟨1,x.sent,x.came,true⟩=sumS s:=by unfold told;rw[qS];dsimp only at o1 ⊢;omega
 have tC:toldC s2 ⟨1,x.sent,x.came,true⟩=sumC s:=by unfold toldC;rw[qC];dsimp only at o2 ⊢;omega
 have qB:total fB s2=0:=by
  have:=wc fB 0 (fun _ _=>rfl) (fun _=>rfl)
  have z:total fB s=0:=zero_of hz.1 hz.2 fB (fun m _ e=>if_neg (fun h=>n7 m e h.1))
  omega
 exact⟨hz,hWW,hRR,hAA,q6,q7,qw,qW,tS,tC,qB⟩
theorem WavesOK.round{N:Nat}{s:RunS}(ho:WavesOK s)(hv:Even 0 s)(h:Fine N s)(hN:N<=1000000000){x:WorkerS}(hx:s.W[0]?= some x)(hi:x.tasks=[])(hop:openB s=false):WavesOK ((List.range' 1 (s.W.length - 1)).foldl (waveS (s.answers.length+1)) (notedS {s with answers:=s.answers++ [⟨0,0,0,true⟩]} x.sent x.came true)):=by
 have h2:=h.two
 have hlw:=h.len
 obtain⟨hz,hWW,hRR,hAA,q6,q7,qw,qW,tS,tC,-⟩:=waves_begin ho h hN hx hop
 generalize (List.range' 1 (s.W.length - 1)).foldl (waveS (s.answers.length+1)) (notedS {s with answers:=s.answers++ [⟨0,0,0,true⟩]} x.sent x.came true)=s2 at *
 have n6:∀m,f6 m=0->¬m.kind=6:=fun m e h6=>by unfold f6 at e;rw[if_pos h6]at e;cases e
 have n7:∀m,f7 m=0->¬m.kind=7:=fun m e h7=>by unfold f7 at e;rw[if_pos h7]at e;cases e
 have zC:total fC s=0:=zero_of hz.1 hz.2 fC (fun m _ e=>if_neg (n7 m e))
 have zW:∀k,total (fW k) s=0:=fun k=>zero_of hz.1 hz.2 (fW k) (fun m e _=>if_neg (fun h=>n6 m e h.1))
 have oz:∀g:WorkerS->Int,openSum g s=0:=fun g=>openSum_zero g zW
 have hbal:=sums_bal s
 have hev:=hv.eq
 have hC2:sumC s2=sumC s:=by unfold sumC;rw[hWW]
 have last1:∀L b,s2.answers=L++ [b]->L=s.answers/\b=⟨1,x.sent,x.came,true⟩:=fun L b e=>by
  rw[hAA]at e
  have:=List.append_inj' e rfl
  exact⟨this.1.symm,by have:=this.2;simp at this;exact this.symm⟩
 have last2:∀L a b,s2.answers=L++ [a,b]->s.answers=L++ [a]/\b=⟨1,x.sent,x.came,true⟩:=fun L a b e=>by
  have e':s2.answers=(L++ [a])++ [b]:=by rw[e];simp
  obtain⟨e1,e2⟩:=last1 _ _ e'
  exact⟨e1.symm,e2⟩
 have lowA:∀L a,s.answers=L++ [a]->a.came<=sumC s:=fun L a e=>by
  have:=ho.came L a e
  unfold toldC at this
  rw[zC,oz]at this
  omega
 refine⟨fun e=>by rw[hAA]at e;simp at e,fun L b e=> ?_,fun k=> ?_,fun L b e=> ?_,fun L a b e=> ?_,fun L a b e=> ?_,by rw[qW,if_neg (by omega)]⟩
 ·obtain⟨-,rfl⟩:=last1 L b e
  rw[q6,q7,hRR]
  dsimp only
  omega
 ·rw[qW]
  split<;>omega
 ·obtain⟨-,rfl⟩:=last1 L b e
  rw[tC,hC2]
  exact Int.le_refl _
 ·obtain⟨e1,rfl⟩:=last2 L a b e
  have:=lowA L a e1
  rw[tS]
  omega
 ·obtain⟨e1,rfl⟩:=last2 L a b e
  have hla:=lowA L a e1
  rw[tS]
  by_cases hlt:a.came < sumS s
  ·exact .inl hlt
  ·refine .inr (.inr (.inr ⟨by omega,fun k y hy h0=> ?_⟩))
   rw[hWW]at hy
   have hkl:=(List.getElem?_eq_some_iff.1 hy).1
   rw[qW]at h0
   have hk0:k=0:=by
    by_cases h9:1<=k/\k < s.W.length
    ·rw[if_pos h9]at h0;cases h0
    ·omega
   subst hk0
   rw[hx]at hy
   obtain rfl:=Option.some.inj hy
   exact hi
theorem WavesOK.check{N:Nat}{s:RunS}(ho:WavesOK s)(hv:Even 0 s)(h:Fine N s)(hN:N<=1000000000):WavesOK (checkS s).1:=by
 have h2:=h.two
 have hl:=h.len
 unfold checkS
 split
 ·exact ho
 ·split
  ·unfold ringS
   split
   ·exact ho
   ·rename_i x hx
    have hxo:=h.works x (List.mem_of_getElem? hx)
    split
    ·exact ho
    ·split
     ·exact ho.same ⟨rfl,rfl,fun f _=>total_congr f rfl⟩ rfl (total_congr works rfl)
     ·exact(ho.reflag hx (x':={x with black:=false,has:=false}) ⟨rfl,rfl,rfl⟩).send (h.reworker 0 (x:={x with black:=false,has:=false}) ⟨hxo.few,hxo.good,hxo.sent,hxo.came,hxo.tok⟩ (Nat.le_refl _)) (by show(0:Int).toNat < _;simp;omega) (by show(s.workers - 1).toNat < _;simp;omega) ⟨by simp,by simp⟩ ⟨by simp,by simp⟩
  ·unfold wavesS
   split
   ·exact ho
   ·rename_i x hx
    split
    ·exact ho
    ·rename_i hc
     have hi:x.tasks=[]:=by
      cases hb:x.tasks with
      |nil=>rfl
      |cons a b=>exact absurd (.inl (by rw[hb];simp)) hc
     have hop:openB s=false:=by
      cases hb:openB s with
      |false=>rfl
      |true=>exact absurd (.inr hb) hc
     split
     ·exact ho.same ⟨rfl,rfl,fun f _=>total_congr f rfl⟩ rfl (total_congr works rfl)
     ·exact ho.round hv h hN hx hi hop
theorem WavesOK.all{s:RunS}(ho:WavesOK s)(hop:openB s=false)(ht:twiceB s=true):(∀y∈s.W,y.tasks=[])/\total works s=0:=by
 unfold twiceB at ht
 split at ht
 ·rename_i b a r hr
  have e:s.answers=r.reverse++ [a,b]:=by
   have:=congrArg List.reverse hr
   simpa using this
  unfold alikeB at ht
  simp only[Bool.and_eq_true,beq_iff_eq]at ht
  obtain⟨⟨⟨t1,t2⟩,t3⟩,t4⟩:=ht
  have e':s.answers=(r.reverse++ [a])++ [b]:=by rw[e];simp
  have hm:=ho.many _ b e'
  unfold openB at hop
  rw[e',List.getLast?_append,List.getLast?_singleton,Option.some_or]at hop
  have hnl:¬b.many < s.workers:=by simpa using hop
  have z6:total f6 s=0:=by omega
  have z7:total f7 s=0:=by omega
  have n6:∀m,f6 m=0->¬m.kind=6:=fun m e h6=>by unfold f6 at e;rw[if_pos h6]at e;cases e
  have n7:∀m,f7 m=0->¬m.kind=7:=fun m e h7=>by unfold f7 at e;rw[if_pos h7]at e;cases e
  have zS:total fS s=0:=zero_of z6 z7 fS (fun m _ e=>if_neg (n7 m e))
  have zB:total fB s=0:=zero_of z6 z7 fB (fun m _ e=>if_neg (fun h=>n7 m e h.1))
  have zW:∀k,total (fW k) s=0:=fun k=>zero_of z6 z7 (fW k) (fun m e _=>if_neg (fun h=>n6 m e h.1))
  have oz:openSum (·.sent) s=0:=openSum_zero _ zW
  have hts:told s b=b.sent:=by unfold told;rw[zS,oz];omega
  rcases ho.good _ a b e with g|g|g|g
  ·rw[hts]at g;omega
  ·rw[t4]at g;cases g
  ·omega
  ·refine⟨fun y hy=> ?_,g.1⟩
   obtain⟨k,hk⟩:=List.getElem?_of_mem hy
   exact g.2 k y hk (zW k)
 ·cases ht
end Go.Proofs.YtfanaanofjhlkaaGreatDoor
