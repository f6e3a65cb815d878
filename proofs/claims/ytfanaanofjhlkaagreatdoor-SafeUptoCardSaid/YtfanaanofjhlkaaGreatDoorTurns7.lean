import Derived.Test.YtfanaanofjhlkaaGreatDoorTurns
import Derived.Test.YtfanaanofjhlkaaGreatDoorTwins
namespace Go.Proofs.YtfanaanofjhlkaaGreatDoor
open Go Go.RowKit
structure Form(s:RunS):Prop where
 llen:s.links.length=s.W.length
 lrow:∀ls∈s.links,ls.length=s.W.length
 came:∀i j,i < s.W.length->j < s.W.length->0<=(linkOf s i j).came/\(linkOf s i j).came<=(linkOf s i j).all.length
theorem Fine.form{N:Nat}{s:RunS}(h:Fine N s):Form s:=⟨h.llen,h.lrow,fun i j hi hj=>(h.links i j hi hj).came⟩
theorem Form.rework{s s':RunS}(h:Form s)(hl:s'.links=s.links)(hw:s'.W.length=s.W.length):Form s':=
 ⟨by rw[hl,hw];exact h.llen,by rw[hl,hw];exact h.lrow,fun i j hi hj=>by rw[hw]at hi hj;have:=h.came i j hi hj;unfold linkOf at this ⊢;rw[hl];exact this⟩
theorem total_form(f:MsgS->Nat){s:RunS}(h:Form s)(m:MsgS)(hi:m.src.toNat < s.W.length)(hj:m.dst.toNat < s.W.length):total f (sendS s m)=total f s+f {m with no:=(linkOf s m.src.toNat m.dst.toNat).all.length+1}:=by
 have a:=total_set f {linkOf s m.src.toNat m.dst.toNat with all:=(linkOf s m.src.toNat m.dst.toNat).all++ [{m with no:=(linkOf s m.src.toNat m.dst.toNat).all.length+1}]} h.llen h.lrow hi hj
 have b:total f (sendS s m)=total f (setLink s m.src.toNat m.dst.toNat {linkOf s m.src.toNat m.dst.toNat with all:=(linkOf s m.src.toNat m.dst.toNat).all++ [{m with no:=(linkOf s m.src.toNat m.dst.toNat).all.length+1}]}):=by
  refine total_congr f ?_
  unfold sendS wayS linkOf setLink
  dsimp only
  split<;>split<;>rfl
 have hc:=h.came _ _ hi hj
 have c:linkSum f {linkOf s m.src.toNat m.dst.toNat with all:=(linkOf s m.src.toNat m.dst.toNat).all++ [{m with no:=(linkOf s m.src.toNat m.dst.toNat).all.length+1}]}=linkSum f (linkOf s m.src.toNat m.dst.toNat)+f {m with no:=(linkOf s m.src.toNat m.dst.toNat).all.length+1}:=by
  unfold linkSum
  dsimp only
  rw[List.drop_append_of_le_length (by omega),List.map_append,List.sum_append]
  simp
 omega
structure Sending(c a:Nat)(s s':RunS):Prop where
 way:∃t,s'.way=s.way++t/\t.length<=c/\∀m∈t,m.kind≠0
 ask:total askN s'<=total askN s+a
 all:∀a b,(linkOf s a b).all <+: (linkOf s' a b).all
 came:∀a b,(linkOf s' a b).came=(linkOf s a b).came
 known:∀a b,(linkOf s' a b).known=(linkOf s a b).known
theorem Sending.refl(s:RunS):Sending 0 0 s s:=⟨⟨[],by simp,by simp,by simp⟩,Nat.le_refl _,fun _ _=>List.prefix_refl _,fun _ _=>rfl,fun _ _=>rfl⟩
theorem Sending.trans{c a c' a':Nat}{x y z:RunS}(h:Sending c a x y)(k:Sending c' a' y z):Sending (c+c') (a+a') x z:=by
 obtain⟨t1,e1,l1,n1⟩:=h.way
 obtain⟨t2,e2,l2,n2⟩:=k.way
 refine⟨⟨t1++t2,by rw[e2,e1,List.append_assoc],by rw[List.length_append];omega,fun m hm=> ?_⟩,by have:=h.ask;have:=k.ask;omega,fun p q=>(h.all p q).trans (k.all p q),fun p q=>(k.came p q).trans (h.came p q),fun p q=>(k.known p q).trans (h.known p q)⟩
 rcases List.mem_append.1 hm with e|e
 ·exact n1 m e
 ·exact n2 m e
theorem Sending.more{c a c' a':Nat}{x y:RunS}(h:Sending c a x y)(hc:c<=c')(ha:a<=a'):Sending c' a' x y:=by
 obtain⟨t,e,l,n⟩:=h.way
 exact⟨⟨t,e,by omega,n⟩,by have:=h.ask;omega,h.all,h.came,h.known⟩
theorem Sending.of{s s':RunS}(hl:s'.links=s.links)(hw:s'.way=s.way):Sending 0 0 s s':=by
 have e:∀a b,linkOf s' a b=linkOf s a b:=fun a b=>by unfold linkOf;rw[hl]
 exact⟨⟨[],by rw[hw];simp,by simp,by simp⟩,by rw[total_congr askN hl];omega,fun a b=>by rw[e];exact List.prefix_refl _,fun a b=>by rw[e],fun a b=>by rw[e]⟩
theorem Sending.send{s:RunS}(h:Form s){m:MsgS}(hk:m.kind≠0)(hi:m.src.toNat < s.W.length)(hj:m.dst.toNat < s.W.length):Sending 1 (askN m) s (sendS s m):=by
 have hq:=linkOf_sends s m h.llen h.lrow hi hj
 refine⟨⟨if s.way.length < 60 then [{m with no:=(linkOf s m.src.toNat m.dst.toNat).all.length+1}]else [],?_,?_,?_⟩,?_,fun a b=> ?_,fun a b=> ?_,fun a b=> ?_⟩
 ·rw[sendS_way]
  split<;>simp
 ·split<;>simp
 ·split
  ·intro x hx
   rw[List.mem_singleton.1 hx]
   exact hk
  ·simp
 ·rw[total_form askN h m hi hj]
  exact Nat.le_refl _
 ·rw[hq]
  split
  ·exact List.prefix_append _ _
  ·exact List.prefix_refl _
 ·rw[hq]
  split<;>rfl
 ·rw[hq]
  split<;>rfl
theorem Sending.by{c a:Nat}{s s':RunS}(hl:s'.links=s.links)(hw:s'.way=s.way):Sending c a s s':=(Sending.of hl hw).more (Nat.zero_le _) (Nat.zero_le _)
theorem Sending.self{c a:Nat}(s:RunS):Sending c a s s:=(Sending.refl s).more (Nat.zero_le _) (Nat.zero_le _)
theorem Sending.send2{c a:Nat}{s s1:RunS}(h:Form s)(hl:s1.links=s.links)(hw:s1.way=s.way)(hW:s1.W.length=s.W.length){m:MsgS}(hk:m.kind≠0)(hi:m.src.toNat < s.W.length)(hj:m.dst.toNat < s.W.length)(hc:1<=c)(ha:askN m<=a):Sending c a s (sendS s1 m):=
 ((Sending.of hl hw).trans (Sending.send (h.rework hl hW) hk (by rw[hW];exact hi) (by rw[hW];exact hj))).more (by omega) (by omega)
theorem Sending.waves{n:Int}:∀(L:List Nat) (N:Nat) (s:RunS),Fine N s->s.answers≠ []->(∀k∈L,1<=k/\k < s.W.length)->Sending L.length L.length s (L.foldl (waveS n) s):=by
 intro L
 induction L with
 |nil=>intro N s _ _ _;exact .refl s
 |cons k r ih=>
  intro N s h ha hL
  have hk:=hL k (List.mem_cons_self ..)
  obtain⟨e1,e2,-⟩:=sendS_rest s {msg0 with src:=0,dst:=k,kind:=6,round:=n}
  have hs:Fine (N+1) (waveS n s k):=h.waves [k] _ _ ha (fun a b=>by rw[List.mem_singleton.1 b];exact hk)
  have h1:Sending 1 1 s (waveS n s k):=Sending.send h.form (m:={msg0 with src:=0,dst:=k,kind:=6,round:=n}) (by show(6:Int)≠0;decide) (by show(0:Int).toNat < _;simp;omega) (by show(k:Int).toNat < _;simp;omega)
  have h2:=ih (N+1) (waveS n s k) hs (by show(sendS _ _).answers≠ [];rw[e1];exact ha) (fun a b=>by show 1<=a/\a < (sendS _ _).W.length;rw[e2];exact hL a (List.mem_cons_of_mem _ b))
  rw[List.foldl_cons]
  exact(h1.trans h2).more (by simp;omega) (by simp;omega)
section
variable {N:Nat} {s:RunS}
theorem Sending.work(h:Fine N s)(i:Int):Sending 1 0 s (workS s i).1:=by
 unfold workS
 split
 ·exact .self s
 ·rename_i hw
  obtain⟨hlo,hlt⟩:=workerE_range hw
  obtain⟨hil,hie⟩:=h.nat hlo hlt
  split
  ·exact .self s
  ·split
   ·exact .self s
   ·split
    ·apply Sending.by<;>rfl
    ·dsimp only
     split
     ·apply Sending.by<;>rfl
     ·have h2:=h.two
      have hlen:=h.len
      refine Sending.send2 h.form ?_ ?_ ?_ ?_ ?_ ?_ (Nat.le_refl _) ?_
      ·rfl
      ·rfl
      ·simp
      ·show(4:Int)≠0
       decide
      ·exact hil
      ·show(0:Int).toNat < s.W.length
       simp
       omega
      ·simp[askN]
theorem Sending.steal(h:Fine N s)(i v:Int):Sending 1 1 s (stealS s i v).1:=by
 unfold stealS
 split
 ·exact .self s
 ·rename_i hw
  obtain⟨hlo,hlt⟩:=workerE_range hw
  obtain⟨hil,hie⟩:=h.nat hlo hlt
  split
  ·exact .self s
  ·rename_i hw2
   obtain⟨hlo2,hlt2⟩:=workerE_range hw2
   obtain⟨hil2,hie2⟩:=h.nat hlo2 hlt2
   split
   ·exact .self s
   ·split
    ·exact .self s
    ·rename_i x hx
     split
     ·exact .self s
     ·refine Sending.send2 h.form ?_ ?_ ?_ ?_ ?_ ?_ (Nat.le_refl _) ?_
      ·rfl
      ·rfl
      ·simp
      ·show(1:Int)≠0
       decide
      ·exact hil
      ·exact hil2
      ·simp[askN]
theorem Sending.pass(h:Fine N s)(i:Int):Sending 1 0 s (passS s i).1:=by
 unfold passS
 split
 ·exact .self s
 ·rename_i hw
  obtain⟨hlo,hlt⟩:=workerE_range hw
  obtain⟨hil,hie⟩:=h.nat hlo hlt
  split
  ·exact .self s
  ·rename_i x hx
   split
   ·exact .self s
   ·dsimp only
    refine Sending.more (c:=1+0) (a:=0+0) (Sending.trans (y:=sendS s {msg0 with src:=i,dst:=i - 1,kind:=5,count:=x.token.count+x.sent - x.came,black:=x.token.black||x.black}) (Sending.more (Sending.send h.form ?_ ?_ ?_) (Nat.le_refl _) ?_) (Sending.by ?_ ?_)) (by omega) (by omega)
    ·show(5:Int)≠0
     decide
    ·exact hil
    ·show(i - 1).toNat < s.W.length
     omega
    ·simp[askN]
    ·rfl
    ·rfl
theorem Sending.check(h:Fine N s)(hN:N<=1000000000):Sending 4 4 s (checkS s).1:=by
 have h2:=h.two
 have h5:=h.five
 have hlen:=h.len
 unfold checkS
 split
 ·exact .self s
 ·split
  ·unfold ringS
   split
   ·exact .self s
   ·rename_i x hx
    split
    ·exact .self s
    ·split
     ·apply Sending.by<;>rfl
     ·refine Sending.send2 h.form ?_ ?_ ?_ ?_ ?_ ?_ (by omega) ?_
      ·rfl
      ·rfl
      ·simp
      ·show(5:Int)≠0
       decide
      ·show(0:Int).toNat < s.W.length
       simp
       omega
      ·show(s.workers - 1).toNat < s.W.length
       omega
      ·simp[askN]
  ·unfold wavesS
   split
   ·exact .self s
   ·rename_i x hx
    have hxo:=h.works x (List.mem_of_getElem? hx)
    have hsn:=hxo.sent
    have hcn:=hxo.came
    split
    ·exact .self s
    ·split
     ·apply Sending.by<;>rfl
     ·have h3:Fine (N+1) {s with answers:=s.answers++ [⟨0,0,0,true⟩]}:=h.reans (by have:=h.alen;simp;omega) (by simp) (fun a ha=>by
       rcases List.mem_append.1 ha with e|e
       ·exact(h.ans a e).more (Nat.le_succ N)
       ·rw[List.mem_singleton.1 e];exact⟨by dsimp only;omega,by dsimp only;omega,by dsimp only;omega⟩) (Nat.le_succ N)
      have h4:=h3.noted (a:=x.sent) (b:=x.came) true (by omega) (by omega)
      have e:(notedS {s with answers:=s.answers++ [⟨0,0,0,true⟩]} x.sent x.came true).links=s.links/\(notedS {s with answers:=s.answers++ [⟨0,0,0,true⟩]} x.sent x.came true).way=s.way/\(notedS {s with answers:=s.answers++ [⟨0,0,0,true⟩]} x.sent x.came true).W=s.W/\(notedS {s with answers:=s.answers++ [⟨0,0,0,true⟩]} x.sent x.came true).answers≠ []:=by
       unfold notedS
       split
       ·rename_i q
        simp at q
       ·exact⟨rfl,rfl,rfl,by simp⟩
      refine((Sending.of e.1 e.2.1).trans (Sending.waves _ _ _ h4 e.2.2.2 (fun k hk=> ?_))).more ?_ ?_
      ·have:=List.mem_range'_1.1 hk
       rw[e.2.2.1]
       omega
      ·simp;omega
      ·simp;omega
theorem again_sending:∀(L:List LinkS),(∀l∈L,∀m∈l.all,m.kind≠0)->(∀l∈L,0<=l.known)->∀s:RunS,Sending L.length 0 s (L.foldl againS s):=by
 intro L
 induction L with
 |nil=>intro _ _ s;exact .refl s
 |cons l L ih=>
  intro hL hn s
  rw[List.foldl_cons]
  have h2:=ih (fun l' h'=>hL l' (List.mem_cons_of_mem _ h')) (fun l' h'=>hn l' (List.mem_cons_of_mem _ h')) (againS s l)
  have h1:Sending 1 0 s (againS s l):=by
   unfold againS
   split
   ·rename_i hlt
    have h0:=hn l (List.mem_cons_self ..)
    have hg:l.all[l.known.toNat]?= some (l.all[l.known.toNat]'(by omega)):=List.getElem?_eq_getElem _
    rw[hg,Option.getD_some]
    have hk:=hL l (List.mem_cons_self ..) _ (List.mem_of_getElem? hg)
    have e:=wayS_rest s (l.all[l.known.toNat]'(by omega))
    have hlk:∀a b,linkOf (wayS s (l.all[l.known.toNat]'(by omega))) a b=linkOf s a b:=fun a b=>by unfold linkOf;rw[e.1]
    refine⟨⟨if s.way.length < 60 then [l.all[l.known.toNat]'(by omega)]else [],?_,?_,?_⟩,by rw[total_congr askN e.1];omega,fun a b=>by rw[hlk];exact List.prefix_refl _,fun a b=>by rw[hlk],fun a b=>by rw[hlk]⟩
    ·unfold wayS
     split<;>simp
    ·split<;>simp
    ·split
     ·intro m hm
      rw[List.mem_singleton.1 hm]
      exact hk
     ·simp
   ·exact .self s
  exact(h1.trans h2).more (by simp;omega) (by omega)
theorem row_mem{i:Nat}{l:LinkS}(h:l∈s.links[i]?.getD []):∃j,l=linkOf s i j/\j < (s.links[i]?.getD []).length:=by
 obtain⟨j,hj,e⟩:=List.mem_iff_getElem.1 h
 refine⟨j,?_,hj⟩
 unfold linkOf
 rw[List.getElem?_eq_getElem hj,Option.getD_some,e]
theorem Sending.tick(h:Fine N s)(i:Int):Sending 5 0 s (tickS s i).1:=by
 unfold tickS
 split
 ·exact .self s
 ·rename_i hw
  obtain⟨hlo,hlt⟩:=workerE_range hw
  obtain⟨hil,hie⟩:=h.nat hlo hlt
  have h5:=h.five
  have hlen:=h.len
  have hg:s.links[i.toNat]?= some (s.links[i.toNat]'(by rw[h.llen];exact hil)):=List.getElem?_eq_getElem _
  have hrow:(s.links[i.toNat]?.getD []).length=s.W.length:=by rw[hg,Option.getD_some];exact h.lrow _ (List.mem_of_getElem? hg)
  have hok:∀l∈s.links[i.toNat]?.getD [],∃j,l=linkOf s i.toNat j/\LinkOK s.ks (s.answers≠ []) N i.toNat j l:=fun l hl=>by
   obtain⟨j,e,hj⟩:=row_mem hl
   exact⟨j,e,by rw[e];exact h.links _ _ hil (by omega)⟩
  refine(again_sending _ (fun l hl m hm=> ?_) (fun l hl=> ?_) s).more (by omega) (Nat.le_refl _)
  ·obtain⟨j,e,ho⟩:=hok l hl
   obtain⟨n,hn⟩:=List.mem_iff_getElem?.1 hm
   have:=(ho.msgs n m hn).kind
   omega
  ·obtain⟨j,e,ho⟩:=hok l hl
   exact ho.known.1
end
structure Told(s:RunS):Prop where
 known:∀a b,(linkOf s a b).known<=(linkOf s a b).came
 acks:∀m∈s.way,m.kind=0->m.no<=(linkOf s m.dst.toNat m.src.toNat).came
section
variable {N:Nat} {s:RunS}
theorem Told.sending{c a:Nat}{s':RunS}(h:Told s)(k:Sending c a s s'):Told s':=by
 obtain⟨t,e,-,n⟩:=k.way
 refine⟨fun a b=>by rw[k.known,k.came];exact h.known a b,fun m hm h0=> ?_⟩
 rw[e]at hm
 rw[k.came]
 rcases List.mem_append.1 hm with q|q
 ·exact h.acks m q h0
 ·exact absurd h0 (n m q)
theorem Told.same{s':RunS}(h:Told s)(hl:s'.links=s.links)(hw:∀m∈s'.way,m∈s.way):Told s':=by
 have e:∀a b,linkOf s' a b=linkOf s a b:=fun a b=>by unfold linkOf;rw[hl]
 exact⟨fun a b=>by rw[e];exact h.known a b,fun m hm h0=>by rw[e];exact h.acks m (hw m hm) h0⟩
theorem Told.work(h:Told s)(hf:Fine N s)(i:Int):Told (workS s i).1:=h.sending (.work hf i)
theorem Told.steal(h:Told s)(hf:Fine N s)(i v:Int):Told (stealS s i v).1:=h.sending (.steal hf i v)
theorem Told.pass(h:Told s)(hf:Fine N s)(i:Int):Told (passS s i).1:=h.sending (.pass hf i)
theorem Told.check(h:Told s)(hf:Fine N s)(hN:N<=1000000000):Told (checkS s).1:=h.sending (.check hf hN)
theorem Told.tick(h:Told s)(hf:Fine N s)(i:Int):Told (tickS s i).1:=h.sending (.tick hf i)
theorem Told.drop(h:Told s)(k:Int):Told (dropS s k).1:=by
 unfold dropS
 split
 ·exact h
 ·refine h.same rfl (fun m hm=> ?_)
  rcases List.mem_append.1 hm with e|e
  ·exact List.mem_of_mem_take e
  ·exact List.mem_of_mem_drop e
theorem Told.twice(h:Told s)(k:Int):Told (twiceS s k).1:=by
 unfold twiceS
 split
 ·exact h
 ·rename_i hme
  obtain⟨h0,h1⟩:=messageE_range hme
  have hg:s.way[k.toNat]?= some (s.way[k.toNat]'(by omega)):=List.getElem?_eq_getElem _
  rw[hg]
  dsimp only[Option.getD_some]
  refine h.same (wayS_rest _ _).1 (fun m hm=> ?_)
  unfold wayS at hm
  split at hm
  ·rcases List.mem_append.1 hm with e|e
   ·exact e
   ·rw[List.mem_singleton.1 e]
    exact List.mem_of_getElem? hg
  ·exact hm
theorem Told.arrived{s':RunS}{m:MsgS}{r:List MsgS}(h:Told s)(k:Arrived m r s s')(hm:m∈s.way)(hr:∀x∈r,x∈s.way):Told s':=by
 refine⟨fun a b=> ?_,fun x hx h0=> ?_⟩
 ·rcases (k.known a b).2 with e|⟨e0,rfl,rfl,e⟩
  ·rw[e]
   exact Int.le_trans (h.known a b) (k.up a b)
  ·rw[e]
   exact Int.le_trans (h.acks m hm e0) (k.up _ _)
 ·obtain⟨t,e,ht⟩:=k.way
  rw[e]at hx
  rcases List.mem_append.1 hx with q|q
  ·exact Int.le_trans (h.acks x (hr x q) h0) (k.up _ _)
  ·obtain⟨e1,e2,e3⟩:=ht x q h0
   rw[e1,e2,e3]
   exact Int.le_refl _
theorem Told.deliver(h:Told s)(hf:Fine N s)(hN:N+5<=90000000)(k:Int):Told (deliverS s k).1:=by
 by_cases hme:messageE s k=0
 ·obtain⟨h0,h1⟩:=messageE_range (i:=k) (s:=s) (by omega)
  have hg:s.way[k.toNat]?= some (s.way[k.toNat]'(by omega)):=List.getElem?_eq_getElem _
  have e:k=(k.toNat:Int):=by omega
  rw[e]at hme ⊢
  refine h.arrived (deliver_arrives hf hN hg hme).2 (List.mem_of_getElem? hg) (fun x hx=> ?_)
  rcases List.mem_append.1 hx with q|q
  ·exact List.mem_of_mem_take q
  ·exact List.mem_of_mem_drop q
 ·unfold deliverS
  rw[if_pos hme]
  exact h
theorem Told.new(workers room mode kind arg:Int)(ks:List KindS):Told (newS workers room mode ks kind arg):=by
 have hL:∀a b,linkOf (newS workers room mode ks kind arg) a b=link0:=fun a b=>by
  unfold linkOf newS
  dsimp only
  rw[List.getElem?_replicate]
  split
  ·rw[Option.getD_some,List.getElem?_replicate]
   split<;>rfl
  ·rfl
 refine⟨fun a b=>by rw[hL];exact Int.le_refl _,fun m hm=> ?_⟩
 cases hm
end
def askW(m:MsgS):Nat:=if m.kind=1 then 2 else if m.kind=2\/m.kind=3 then 1 else 0
def left(g:TaskS->Nat)(s:RunS):Nat:=tasksSum (fun t=>2*g t) s+total (weigh (fun t=>2*g t) fun _=>1) s+total askW s
section
variable {N:Nat} {s:RunS}
end
def fR(k:Nat)(m:MsgS):Nat:=if m.kind=7/\m.src=(k:Int)then 1 else 0
structure Ctrl(s:RunS):Prop where
 ring:s.mode=1->held s+total tok s=1/\total f6 s=0/\total f7 s=0
 waves:s.mode≠1->total tok s=0/\∀k,total (fW k) s+total (fR k) s<=1
structure Apart(s s':RunS):Prop where
 mode:s'.mode=s.mode
 hold:held s'=held s
 tot:∀f:MsgS->Nat,(∀m,m.kind<=4->f m=0)->total f s'=total f s
theorem Apart.refl(s:RunS):Apart s s:=⟨rfl,rfl,fun _ _=>rfl⟩
theorem Apart.trans{a b c:RunS}(h:Apart a b)(k:Apart b c):Apart a c:=⟨k.mode.trans h.mode,k.hold.trans h.hold,fun f hf=>(k.tot f hf).trans (h.tot f hf)⟩
theorem Ctrl.apart{s s':RunS}(h:Ctrl s)(k:Apart s s'):Ctrl s':=by
 have e5:=k.tot tok (fun m hm=>if_neg (by omega))
 have e6:=k.tot f6 (fun m hm=>if_neg (by omega))
 have e7:=k.tot f7 (fun m hm=>if_neg (by omega))
 have eW:=fun n=>k.tot (fW n) (fun m hm=>if_neg (by omega))
 have eR:=fun n=>k.tot (fR n) (fun m hm=>if_neg (by omega))
 refine⟨fun hm=> ?_,fun hm=> ?_⟩
 ·rw[k.mode]at hm
  rw[k.hold,e5,e6,e7]
  exact h.ring hm
 ·rw[k.mode]at hm
  rw[e5]
  refine⟨(h.waves hm).1,fun n=> ?_⟩
  rw[eW,eR]
  exact(h.waves hm).2 n
theorem sendS_held(s:RunS)(m:MsgS):held (sendS s m)=held s:=by
 unfold held sendS wayS
 dsimp only
 have e:∀(W:List WorkerS) (i:Nat),(W.set i {W[i]?.getD worker0 with sent:=(W[i]?.getD worker0).sent+1}).map hasN=W.map hasN:=fun W i=>by
  cases hx:W[i]? with
  |none=>rw[List.set_eq_of_length_le (by rw[List.getElem?_eq_none_iff]at hx;exact hx)]
  |some x=>
   rw[Option.getD_some,List.map_set]
   obtain⟨hlt,he⟩:=List.getElem?_eq_some_iff.1 hx
   refine List.ext_getElem? (fun n=> ?_)
   rw[List.getElem?_set]
   split
   ·rename_i q
    subst q
    rw[if_pos (by simpa using hlt),List.getElem?_map,hx]
    rfl
   ·rfl
 split<;>split
 ·rw[e]
 ·rw[e]
 ·rfl
 ·rfl
theorem sendS_mode(s:RunS)(m:MsgS):(sendS s m).mode=s.mode:=(Stays.send s m).mode
theorem Apart.send{s:RunS}(h:Form s){m:MsgS}(hk:m.kind<=4)(hi:m.src.toNat < s.W.length)(hj:m.dst.toNat < s.W.length):Apart s (sendS s m):=
 ⟨sendS_mode s m,sendS_held s m,fun f hf=>by rw[total_form f h m hi hj,hf {m with no:=(linkOf s m.src.toNat m.dst.toNat).all.length+1} hk];rfl⟩
theorem Apart.send2{s s1:RunS}(k:Apart s s1)(h:Form s)(hl:s1.links=s.links)(hW:s1.W.length=s.W.length){m:MsgS}(hk:m.kind<=4)(hi:m.src.toNat < s.W.length)(hj:m.dst.toNat < s.W.length):Apart s (sendS s1 m):=
 k.trans (Apart.send (h.rework hl hW) hk (by rw[hW];exact hi) (by rw[hW];exact hj))
theorem held_same{s:RunS}{i:Nat}{x x':WorkerS}(hx:s.W[i]?= some x)(hh:x'.has=x.has):held {s with W:=s.W.set i x'}=held s:=by
 have:=held_set x' hx
 unfold hasN at this
 rw[hh]at this
 omega
theorem Apart.rework{s s':RunS}{i:Nat}{x x':WorkerS}(hx:s.W[i]?= some x)(hh:x'.has=x.has)(hW:s'.W=s.W.set i x')(hm:s'.mode=s.mode)(hl:s'.links=s.links):Apart s s':=
 ⟨hm,by have:=held_same hx hh;unfold held at this ⊢;rw[hW];exact this,fun f _=>total_congr f hl⟩
theorem Apart.same{s s':RunS}(e:Same s s'):Apart s s':=⟨e.mode,by unfold held;rw[e.W],fun f _=>e.shape.2 f⟩
section
variable {N:Nat} {s:RunS}
theorem Apart.work(h:Fine N s)(i:Int):Apart s (workS s i).1:=by
 unfold workS
 split
 ·exact .refl s
 ·rename_i hw
  obtain⟨hlo,hlt⟩:=workerE_range hw
  obtain⟨hil,hie⟩:=h.nat hlo hlt
  split
  ·exact .refl s
  ·rename_i x hx
   split
   ·exact .refl s
   ·rename_i t ht
    split
    ·exact⟨rfl,rfl,fun f _=>total_congr f rfl⟩
    ·dsimp only
     split
     ·refine Apart.rework hx (x':={x with tasks:=x.tasks.dropLast++children s.ks t}) ?_ ?_ ?_ ?_<;>rfl
     ·have h2:=h.two
      have hlen:=h.len
      refine Apart.send2 (s1:={s with W:=s.W.set i.toNat {x with tasks:=x.tasks.dropLast++children s.ks t}}) (Apart.rework hx (x':={x with tasks:=x.tasks.dropLast++children s.ks t}) rfl rfl rfl rfl) h.form rfl (by simp) ?_ ?_ ?_
      ·show(4:Int)<=4
       decide
      ·exact hil
      ·show(0:Int).toNat < s.W.length
       simp
       omega
theorem Apart.steal(h:Fine N s)(i v:Int):Apart s (stealS s i v).1:=by
 unfold stealS
 split
 ·exact .refl s
 ·rename_i hw
  obtain⟨hlo,hlt⟩:=workerE_range hw
  obtain⟨hil,hie⟩:=h.nat hlo hlt
  split
  ·exact .refl s
  ·rename_i hw2
   obtain⟨hlo2,hlt2⟩:=workerE_range hw2
   obtain⟨hil2,hie2⟩:=h.nat hlo2 hlt2
   split
   ·exact .refl s
   ·split
    ·exact .refl s
    ·rename_i x hx
     split
     ·exact .refl s
     ·refine Apart.send2 (s1:={s with W:=s.W.set i.toNat {x with asked:=true}}) (Apart.rework hx (x':={x with asked:=true}) rfl rfl rfl rfl) h.form rfl (by simp) ?_ ?_ ?_
      ·show(1:Int)<=4
       decide
      ·exact hil
      ·exact hil2
theorem Ctrl.work(hc:Ctrl s)(h:Fine N s)(i:Int):Ctrl (workS s i).1:=hc.apart (.work h i)
theorem Ctrl.steal(hc:Ctrl s)(h:Fine N s)(i v:Int):Ctrl (stealS s i v).1:=hc.apart (.steal h i v)
theorem Ctrl.drop(hc:Ctrl s)(k:Int):Ctrl (dropS s k).1:=hc.apart (.same (Same.drop s k))
theorem Ctrl.twice(hc:Ctrl s)(k:Int):Ctrl (twiceS s k).1:=hc.apart (.same (Same.twice s k))
theorem Ctrl.tick(hc:Ctrl s)(i:Int):Ctrl (tickS s i).1:=hc.apart (.same (Same.tick s i))
theorem Ctrl.new(workers room mode kind arg:Int)(ks:List KindS):Ctrl (newS workers room mode ks kind arg):=by
 refine⟨fun _=>⟨?_,total_new _ _ _ _ _ _ _,total_new _ _ _ _ _ _ _⟩,fun _=>⟨total_new _ _ _ _ _ _ _,fun k=>by rw[total_new,total_new];omega⟩⟩
 have e:∀n:Nat,((List.replicate n worker0).map hasN).sum=0:=fun n=>by
  induction n with
  |zero=>rfl
  |succ n ih=>rw[List.replicate_succ,List.map_cons,List.sum_cons,ih];rfl
 rw[total_new]
 unfold held newS
 dsimp only
 rw[List.map_cons,List.sum_cons,e]
 rfl
theorem Ctrl.thing{i j:Nat}{m:MsgS}(hc:Ctrl s)(h:Fine N s)(hi:i < s.W.length)(hj:j < s.W.length)(hg:(linkOf s i j).all[(linkOf s i j).came.toNat]?= some m)(hm:MsgOK s.ks (s.answers≠ []) N i j (linkOf s i j).came.toNat m)(hF:Fine N (setLink s i j {linkOf s i j with came:=(linkOf s i j).came+1})):Ctrl (cameS (setLink s i j {linkOf s i j with came:=(linkOf s i j).came+1}) m):=by
 have hst:=fun f=>total_step f h hi hj hg
 have hW:(setLink s i j {linkOf s i j with came:=(linkOf s i j).came+1}).W=s.W:=rfl
 have hM:(setLink s i j {linkOf s i j with came:=(linkOf s i j).came+1}).mode=s.mode:=rfl
 generalize setLink s i j {linkOf s i j with came:=(linkOf s i j).came+1}=S at *
 have hH:held S=held s:=by unfold held;rw[hW]
 have hx:S.W[m.dst.toNat]?= some (S.W[m.dst.toNat]'(by rw[hm.dst,hW];simpa using hj)):=List.getElem?_eq_getElem _
 have hk:=hm.kind
 have hmj:m.dst.toNat < S.W.length:=by rw[hm.dst,hW];simpa using hj
 have hmi:m.src.toNat < S.W.length:=by rw[hm.src,hW];simpa using hi
 by_cases h4:m.kind<=4
 ·have hcS:Ctrl S:=by
   have e:∀f:MsgS->Nat,(∀m,m.kind<=4->f m=0)->total f S=total f s:=fun f hf=>by have:=hst f;rw[hf m h4]at this;omega
   exact hc.apart ⟨hM,hH,e⟩
  refine hcS.apart ?_
  unfold cameS
  dsimp only
  rw[hx,Option.getD_some]
  split
  ·split
   ·refine Apart.send hF.form ?_ ?_ ?_
    ·show(3:Int)<=4
     decide
    ·exact hmj
    ·exact hmi
   ·rename_i t r ht
    refine Apart.send2 (s1:={S with W:=S.W.set m.dst.toNat {S.W[m.dst.toNat]'hmj with tasks:=r}}) (Apart.rework hx (x':={S.W[m.dst.toNat]'hmj with tasks:=r}) rfl rfl rfl rfl) hF.form rfl (by simp) ?_ ?_ ?_
    ·show(2:Int)<=4
     decide
    ·exact hmj
    ·exact hmi
  ·split
   ·refine Apart.rework hx (x':={S.W[m.dst.toNat]'hmj with came:=(S.W[m.dst.toNat]'hmj).came+1,black:=true,asked:=false,tasks:=(S.W[m.dst.toNat]'hmj).tasks++ [m.t]}) ?_ ?_ ?_ ?_<;>rfl
   ·split
    ·refine Apart.rework hx (x':={S.W[m.dst.toNat]'hmj with asked:=false}) ?_ ?_ ?_ ?_<;>rfl
    ·split
     ·refine Apart.rework hx (x':={S.W[m.dst.toNat]'hmj with came:=(S.W[m.dst.toNat]'hmj).came+1,black:=true}) ?_ ?_ ?_ ?_<;>rfl
     ·exact absurd h4 (by omega)
 ·by_cases h5:m.kind=5
  ·have ht:tok m=1:=if_pos h5
   have ht':=hst tok
   have e:∀f:MsgS->Nat,f m=0->total f S=total f s:=fun f hf=>by have:=hst f;omega
   have hmode:s.mode=1:=by
    by_cases q:s.mode=1
    ·exact q
    ·have:=(hc.waves q).1
     omega
   obtain⟨r1,r2,r3⟩:=hc.ring hmode
   unfold cameS
   dsimp only
   rw[if_neg (by omega),if_neg (by omega),if_neg (by omega),if_neg (by omega),if_pos h5,hx,Option.getD_some]
   have hh:=held_set (s:=S) {S.W[m.dst.toNat]'hmj with has:=true,token:=m} hx
   have hn:hasN {S.W[m.dst.toNat]'hmj with has:=true,token:=m}=1:=rfl
   have hz:hasN (S.W[m.dst.toNat]'hmj)<=held S:=mem_sum hasN _ _ (List.getElem_mem _)
   refine⟨fun _=>⟨?_,?_,?_⟩,fun q=>absurd (hM.trans hmode) q⟩
   ·have a:held {S with W:=S.W.set m.dst.toNat {S.W[m.dst.toNat]'hmj with has:=true,token:=m},around:=S.around||m.dst==0}=held {S with W:=S.W.set m.dst.toNat {S.W[m.dst.toNat]'hmj with has:=true,token:=m}}:=rfl
    have b:total tok {S with W:=S.W.set m.dst.toNat {S.W[m.dst.toNat]'hmj with has:=true,token:=m},around:=S.around||m.dst==0}=total tok S:=total_congr tok rfl
    rw[a,b]
    omega
   ·exact(total_congr f6 rfl).trans ((e f6 (if_neg (by omega))).trans r2)
   ·exact(total_congr f7 rfl).trans ((e f7 (if_neg (by omega))).trans r3)
  ·have hmode:s.mode≠1:=fun q=>by
    obtain⟨r1,r2,r3⟩:=hc.ring q
    have a:=hst f6
    have b:=hst f7
    by_cases h6:m.kind=6
    ·have:f6 m=1:=if_pos h6
     omega
    ·have:f7 m=1:=if_pos (by omega)
     omega
   obtain⟨w1,w2⟩:=hc.waves hmode
   have et:total tok S=0:=by have:=hst tok;omega
   by_cases h6:m.kind=6
   ·unfold cameS
    dsimp only
    rw[if_neg (by omega),if_neg (by omega),if_neg (by omega),if_neg (by omega),if_neg (by omega),if_pos h6,hx,Option.getD_some]
    refine⟨fun q=>absurd ((sendS_mode _ _).symm.trans q) (by rw[hM];exact hmode),fun _=>⟨?_,fun k=> ?_⟩⟩
    ·rw[total_form tok hF.form _ hmj (by show(0:Int).toNat < _;simp;omega),et]
     rfl
    ·rw[total_form (fW k) hF.form _ hmj (by show(0:Int).toNat < _;simp;omega),total_form (fR k) hF.form _ hmj (by show(0:Int).toNat < _;simp;omega)]
     have a:=hst (fW k)
     have b:=hst (fR k)
     have c:=w2 k
     have d:fR k m=0:=if_neg (by omega)
     have e:∀n:Int,fW k {msg0 with src:=m.dst,dst:=0,no:=n,kind:=7,round:=m.round,sent:=(S.W[m.dst.toNat]'hmj).sent,came:=(S.W[m.dst.toNat]'hmj).came,idle:=(S.W[m.dst.toNat]'hmj).tasks.isEmpty}=0:=fun n=>rfl
     have f:∀n:Int,fR k {msg0 with src:=m.dst,dst:=0,no:=n,kind:=7,round:=m.round,sent:=(S.W[m.dst.toNat]'hmj).sent,came:=(S.W[m.dst.toNat]'hmj).came,idle:=(S.W[m.dst.toNat]'hmj).tasks.isEmpty}=if m.dst=(k:Int)then 1 else 0:=fun n=>by
      unfold fR
      dsimp only
      by_cases q:m.dst=(k:Int)<;>simp[q]
     have g:fW k m=if m.dst=(k:Int)then 1 else 0:=by
      unfold fW
      by_cases q:m.dst=(k:Int)<;>simp[q,h6]
     have e:=e ((linkOf S m.dst.toNat (0:Int).toNat).all.length+1)
     have f:=f ((linkOf S m.dst.toNat (0:Int).toNat).all.length+1)
     dsimp only at e f ⊢
     omega
   ·have h7:m.kind=7:=by omega
    have hcS:Ctrl S:=⟨fun q=>absurd (hM.symm.trans q) hmode,fun _=>⟨et,fun k=>by have a:=hst (fW k);have b:=hst (fR k);have c:=w2 k;omega⟩⟩
    unfold cameS notedS
    dsimp only
    rw[if_neg (by omega),if_neg (by omega),if_neg (by omega),if_neg (by omega),if_neg (by omega),if_neg h6,if_pos h7]
    split
    ·exact hcS
    ·exact hcS.apart ⟨rfl,rfl,fun f _=>total_congr f rfl⟩
theorem Ctrl.deliver(hc:Ctrl s)(h:Fine N s)(hN:N+5<=90000000)(k:Int):Ctrl (deliverS s k).1:=
 deliver_ind (P:=Ctrl) (fun _ _ e hp=>hp.apart (.same e)) (fun _ _ _ _ _ hF _ hi hj hg hm hF2 hp=>hp.thing hF hi hj hg hm hF2) hc h hN k
theorem Ctrl.pass(hc:Ctrl s)(h:Fine N s)(i:Int):Ctrl (passS s i).1:=by
 unfold passS
 split
 ·exact hc
 ·rename_i hw
  obtain⟨hlo,hlt⟩:=workerE_range hw
  obtain⟨hil,hie⟩:=h.nat hlo hlt
  split
  ·exact hc
  ·rename_i x hx
   split
   ·exact hc
   ·rename_i hn
    have hmode:s.mode=1:=by
     by_cases q:s.mode=1
     ·exact q
     ·exact absurd (.inl q) hn
    have hhas:hasN x=1:=by
     unfold hasN
     cases q:x.has with
     |true=>rfl
     |false=>exact absurd (.inr (.inr (.inl q))) hn
    obtain⟨r1,r2,r3⟩:=hc.ring hmode
    have hd:(i - 1).toNat < s.W.length:=by omega
    have ht:=fun f=>total_form f h.form {msg0 with src:=i,dst:=i - 1,kind:=5,count:=x.token.count+x.sent - x.came,black:=x.token.black||x.black} hil hd
    have hW:(sendS s {msg0 with src:=i,dst:=i - 1,kind:=5,count:=x.token.count+x.sent - x.came,black:=x.token.black||x.black}).W=s.W:=sendS_W _ _ (by show¬((5:Int)=2\/(5:Int)=4);decide)
    have hM:(sendS s {msg0 with src:=i,dst:=i - 1,kind:=5,count:=x.token.count+x.sent - x.came,black:=x.token.black||x.black}).mode=s.mode:=sendS_mode _ _
    have hh:=held_set (s:=s) {x with black:=false,has:=false} hx
    have h0:hasN {x with black:=false,has:=false}=0:=rfl
    have a5:∀n:Int,tok {msg0 with src:=i,dst:=i - 1,no:=n,kind:=5,count:=x.token.count+x.sent - x.came,black:=x.token.black||x.black}=1:=fun n=>rfl
    have a6:∀n:Int,f6 {msg0 with src:=i,dst:=i - 1,no:=n,kind:=5,count:=x.token.count+x.sent - x.came,black:=x.token.black||x.black}=0:=fun n=>rfl
    have a7:∀n:Int,f7 {msg0 with src:=i,dst:=i - 1,no:=n,kind:=5,count:=x.token.count+x.sent - x.came,black:=x.token.black||x.black}=0:=fun n=>rfl
    dsimp only
    generalize sendS s {msg0 with src:=i,dst:=i - 1,kind:=5,count:=x.token.count+x.sent - x.came,black:=x.token.black||x.black}=S at *
    have b5:=ht tok
    have b6:=ht f6
    have b7:=ht f7
    dsimp only at b5 b6 b7
    rw[a5]at b5
    rw[a6]at b6
    rw[a7]at b7
    refine⟨fun _=>⟨?_,?_,?_⟩,fun q=>absurd (hM.trans hmode) q⟩
    ·have e1:held {S with W:=S.W.set i.toNat {x with black:=false,has:=false}}=held {s with W:=s.W.set i.toNat {x with black:=false,has:=false}}:=by unfold held;dsimp only;rw[hW]
     have e2:total tok {S with W:=S.W.set i.toNat {x with black:=false,has:=false}}=total tok S:=total_congr tok rfl
     rw[e1,e2]
     omega
    ·exact(total_congr f6 (s':=S) rfl).trans (by omega)
    ·exact(total_congr f7 (s':=S) rfl).trans (by omega)
theorem Ctrl.check(hc:Ctrl s)(hw:WavesOK s)(hv:Even 0 s)(h:Fine N s)(hN:N<=1000000000):Ctrl (checkS s).1:=by
 have hone:=(hw.check hv h hN).one
 have h2:=h.two
 have hlen:=h.len
 unfold checkS at hone ⊢
 split
 ·exact hc
 ·rename_i hst
  rw[if_neg hst]at hone
  split
  ·rename_i hmode
   unfold ringS
   split
   ·exact hc
   ·rename_i x hx
    split
    ·exact hc
    ·rename_i hn
     split
     ·exact hc.apart ⟨rfl,rfl,fun f _=>total_congr f rfl⟩
     ·have hhas:hasN x=1:=by
       unfold hasN
       cases q:x.has with
       |true=>rfl
       |false=>exact absurd (.inl q) hn
      obtain⟨r1,r2,r3⟩:=hc.ring hmode
      have hf:Form {s with W:=s.W.set 0 {x with black:=false,has:=false}}:=h.form.rework rfl (by simp)
      have ht:=fun f=>total_form f hf {msg0 with src:=0,dst:=s.workers - 1,kind:=5} (by show(0:Int).toNat < _;simp;omega) (by show(s.workers - 1).toNat < _;simp;omega)
      have hh:=held_set (s:=s) {x with black:=false,has:=false} hx
      have h0:hasN {x with black:=false,has:=false}=0:=rfl
      have a5:∀n:Int,tok {msg0 with src:=0,dst:=s.workers - 1,no:=n,kind:=5}=1:=fun n=>rfl
      have a6:∀n:Int,f6 {msg0 with src:=0,dst:=s.workers - 1,no:=n,kind:=5}=0:=fun n=>rfl
      have a7:∀n:Int,f7 {msg0 with src:=0,dst:=s.workers - 1,no:=n,kind:=5}=0:=fun n=>rfl
      have e2:∀f,total f {s with W:=s.W.set 0 {x with black:=false,has:=false}}=total f s:=fun f=>total_congr f rfl
      refine⟨fun _=>⟨?_,?_,?_⟩,fun q=>q.elim ?_⟩
      rotate_left 3
      ·rw[sendS_mode]
       exact hmode
      ·rw[sendS_held,ht,e2]
       have:=a5 ((linkOf {s with W:=s.W.set 0 {x with black:=false,has:=false}} (0:Int).toNat (s.workers - 1).toNat).all.length+1)
       dsimp only at this ⊢
       omega
      ·rw[ht,e2,r2]
       rfl
      ·rw[ht,e2,r3]
       rfl
  ·rename_i hmode
   rw[if_neg hmode]at hone
   unfold wavesS at hone ⊢
   split
   ·exact hc
   ·rename_i x hx
    have hxo:=h.works x (List.mem_of_getElem? hx)
    have hsn:=hxo.sent
    have hcn:=hxo.came
    rw[hx]at hone
    simp only at hone
    split
    ·exact hc
    ·rename_i hn
     rw[if_neg hn]at hone
     split
     ·exact hc.apart ⟨rfl,rfl,fun f _=>total_congr f rfl⟩
     ·rename_i htw
      rw[if_neg htw]at hone
      have h3:Fine (N+1) {s with answers:=s.answers++ [⟨0,0,0,true⟩]}:=h.reans (by have:=h.alen;simp;omega) (by simp) (fun a ha=>by
       rcases List.mem_append.1 ha with e|e
       ·exact(h.ans a e).more (Nat.le_succ N)
       ·rw[List.mem_singleton.1 e];exact⟨by dsimp only;omega,by dsimp only;omega,by dsimp only;omega⟩) (Nat.le_succ N)
      have h4:=h3.noted (a:=x.sent) (b:=x.came) true (by omega) (by omega)
      have e:(notedS {s with answers:=s.answers++ [⟨0,0,0,true⟩]} x.sent x.came true).links=s.links/\(notedS {s with answers:=s.answers++ [⟨0,0,0,true⟩]} x.sent x.came true).mode=s.mode/\(notedS {s with answers:=s.answers++ [⟨0,0,0,true⟩]} x.sent x.came true).W=s.W/\(notedS {s with answers:=s.answers++ [⟨0,0,0,true⟩]} x.sent x.came true).answers≠ []:=by
       unfold notedS
       split
       ·rename_i q
        simp at q
       ·exact⟨rfl,rfl,rfl,by simp⟩
      have hL:∀k∈List.range' 1 (s.W.length - 1),1<=k/\k < (notedS {s with answers:=s.answers++ [⟨0,0,0,true⟩]} x.sent x.came true).W.length:=fun k hk=>by
       have:=List.mem_range'_1.1 hk
       rw[e.2.2.1]
       omega
      have hop:openB s=false:=by
       cases hb:openB s with
       |false=>rfl
       |true=>exact absurd (.inr hb) hn
      have z7:total f7 s=0:=by
       cases e:s.answers.reverse with
       |nil=>exact(hw.none (by simpa using e)).2
       |cons b L=>
        have e2:s.answers=L.reverse++ [b]:=by
         have:=congrArg List.reverse e
         simpa using this
        have h1:=hw.many _ _ e2
        have h3:¬b.many < s.workers:=by
         have:openB s=decide (b.many < s.workers):=by
          unfold openB
          rw[e2,List.getLast?_append,List.getLast?_singleton,Option.some_or]
         rw[this]at hop
         exact of_decide_eq_false hop
        omega
      have wt:=fun f hf=>waves_total (r:=(s.answers.length+1:Int)) f hf _ _ _ h4 e.2.2.2 hL
      refine⟨fun q=>absurd ((Stays.waves _ _).mode.symm.trans q) (by rw[e.2.1];exact hmode),fun _=>⟨?_,fun k=> ?_⟩⟩
      ·rw[wt tok (fun _ _=>rfl),total_congr tok e.1,(hc.waves hmode).1,Nat.zero_add]
       exact sum_none (fun k _=>rfl)
      ·have hR:total (fR k) ((List.range' 1 (s.W.length - 1)).foldl (waveS (s.answers.length+1)) (notedS {s with answers:=s.answers++ [⟨0,0,0,true⟩]} x.sent x.came true))=0:=by
        rw[wt (fR k) (fun _ _=>rfl),total_congr (fR k) e.1]
        have:total (fR k) s<=total f7 s:=total_le (fun m=>by
         unfold fR f7
         split
         ·rename_i q
          rw[if_pos q.1]
          exact Nat.le_refl _
         ·exact Nat.zero_le _) s
        have z:((List.range' 1 (s.W.length - 1)).map fun(i:Nat)=>fR k {msg0 with src:=0,dst:=(i:Int),kind:=6,round:=(s.answers.length+1:Int)}).sum=0:=sum_none (fun i _=>rfl)
        rw[z]
        omega
       rw[hR]
       exact hone k
end
structure Whole(N:Nat)(s:RunS):Prop where
 steady:Steady N s
 sure:Sure s
 told:Told s
 ctrl:Ctrl s
 calm:Calm s
section
variable {N:Nat} {s:RunS}
theorem Whole.fine(h:Whole N s):Fine N s:=h.steady.fine
theorem Whole.more{N':Nat}(h:Whole N s)(hN:N<=N'):Whole N' s:=⟨h.steady.more hN,h.sure,h.told,h.ctrl,h.calm⟩
theorem Whole.new{workers room mode kind arg:Int}{ks:List KindS}(hc:cfgB workers room mode=true)(hp:progB ks kind arg=true):Whole 0 (newS workers room mode ks kind arg):=
 ⟨Steady.new hc hp,Sure.new hc hp,Told.new _ _ _ _ _ _,Ctrl.new _ _ _ _ _ _,Calm.new _ _ _ _ _ _⟩
theorem Whole.work(h:Whole N s)(i:Int):Whole (N+1) (workS s i).1:=⟨h.steady.work i,h.sure.work h.fine i,h.told.work h.fine i,h.ctrl.work h.fine i,h.calm.work h.fine i⟩
theorem Whole.steal(h:Whole N s)(i v:Int):Whole (N+1) (stealS s i v).1:=⟨h.steady.steal i v,h.sure.steal h.fine i v,h.told.steal h.fine i v,h.ctrl.steal h.fine i v,h.calm.steal i v⟩
theorem Whole.drop(h:Whole N s)(k:Int):Whole N (dropS s k).1:=⟨h.steady.drop k,h.sure.drop k,h.told.drop k,h.ctrl.drop k,h.calm.drop k⟩
theorem Whole.twice(h:Whole N s)(k:Int):Whole N (twiceS s k).1:=⟨h.steady.twice k,h.sure.twice k,h.told.twice k,h.ctrl.twice k,h.calm.twice k⟩
theorem Whole.tick(h:Whole N s)(i:Int):Whole N (tickS s i).1:=⟨h.steady.tick i,h.sure.tick i,h.told.tick h.fine i,h.ctrl.tick i,h.calm.tick h.fine i⟩
theorem Whole.deliver(h:Whole N s)(hN:N+5<=90000000)(k:Int):Whole (N+5) (deliverS s k).1:=⟨h.steady.deliver hN k,h.sure.deliver h.fine hN k,h.told.deliver h.fine hN k,h.ctrl.deliver h.fine hN k,h.calm.deliver k⟩
theorem Whole.pass(h:Whole N s)(hN:N<=1000000000)(i:Int):Whole (N+1) (passS s i).1:=⟨h.steady.pass hN i,h.sure.pass h.fine i,h.told.pass h.fine i,h.ctrl.pass h.fine i,h.calm.pass i⟩
theorem Whole.check(h:Whole N s)(hN:N<=1000000000):Whole (N+6) (checkS s).1:=⟨h.steady.check hN,h.sure.check h.fine hN,h.told.check h.fine hN,h.ctrl.check h.sure.waves h.sure.even h.fine hN,h.calm.check h.fine⟩
end
end Go.Proofs.YtfanaanofjhlkaaGreatDoor
