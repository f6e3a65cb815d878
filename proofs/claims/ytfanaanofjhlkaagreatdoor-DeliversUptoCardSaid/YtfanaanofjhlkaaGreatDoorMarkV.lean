import Derived.Test.YtfanaanofjhlkaaGreatDoorRefPut
import Derived.Test.YtfanaanofjhlkaaGreatDoorRefKids
import Derived.Test.YtfanaanofjhlkaaGreatDoorRefProg
import Derived.Test.YtfanaanofjhlkaaGreatDoorRangeG
import Derived.Laws.CopyRow
import Derived.Deep.AppendLies
import Derived.OwnWalk
import Derived.ArgAppend
set_option maxHeartbeats 16000000
set_option maxRecDepth 100000
namespace Go.Proofs.YtfanaanofjhlkaaGreatDoor
open Go
theorem uC{ks:List aS}{kind arg:Int}(hp:cD ks kind arg=true):∀(f:Nat) (t:aL),gO ks t->t.arg<=f->fY ks (f+1) t=fY ks f t
 |0,t,hG,hf=>by
  have he:aW ks t=[]:=by
   refine List.eq_nil_iff_forall_not_mem.2 fun c hc=> ?_
   have h:=lI hp hG hc;have h2:=h.1.2.2.1;omega
  simp[fY,he]
 |f+1,t,hG,hf=>by
  show t :: (aW ks t).flatMap (fY ks (f+1))=t :: (aW ks t).flatMap (fY ks f);rw[oT fun c hc=>uC hp f c (lI hp hG hc).1 (by have:=(lI hp hG hc).2;omega)]
def jY(ks:List aS)(root:aL)(P Q:List aL):Prop:=
 (P++Q.flatMap (fY ks 12)).Perm (fY ks 12 root)/\(∀t∈P++Q,gO ks t/\t.arg<=12)
theorem jY.start{ks:List aS}{root:aL}(hG:gO ks root)(h:root.arg<=12):jY ks root [] [root]:=by
 refine⟨by simp,?_⟩;intro t ht;simp at ht;subst ht;exact⟨hG,h⟩
theorem jY.step{ks:List aS}{kind arg:Int}(hp:cD ks kind arg=true){root t:aL}{P Q:List aL}(h:jY ks root P (t :: Q)):jY ks root (P++ [t]) (Q++aW ks t):=by
 obtain⟨h1,h2⟩:=h;obtain⟨hG,h12⟩:=h2 t (by simp);refine⟨?_,?_⟩
 ·refine List.Perm.trans ?_ h1
  have e:fY ks 12 t=t :: (aW ks t).flatMap (fY ks 12):=by
   show t :: (aW ks t).flatMap (fY ks 11)=_;rw[oT fun c hc=>(uC hp 11 c (lI hp hG hc).1 (by have:=(lI hp hG hc).2;omega)).symm]
  rw[List.flatMap_append,List.flatMap_cons,e,List.append_assoc];refine List.Perm.append_left P ?_;simp only[List.cons_append,List.nil_append];exact List.Perm.cons _ List.perm_append_comm
 ·intro u hu
  simp only[List.mem_append,List.mem_cons,List.not_mem_nil,or_false]at hu;rcases hu with(hu|rfl)|(hu|hu)
  ·exact h2 u (by simp[hu])
  ·exact⟨hG,h12⟩
  ·exact h2 u (by simp[hu])
  ·exact⟨(lI hp hG hu).1,by have:=(lI hp hG hu).2;omega⟩
theorem jY.more{ks:List aS}{root t:aL}{P Q:List aL}(h:jY ks root P (t :: Q)):P.length+1<=(fY ks 12 root).length:=by
 rw[<-h.1.length_eq,List.flatMap_cons,f_,f_];have:1<=(fY ks 12 t).length:=by show 1<=(t :: _).length;simp
 omega
theorem jY.end{ks:List aS}{root:aL}{P:List aL}(h:jY ks root P []):P.Perm (fY ks 12 root):=by simpa using h.1
def nJ(l:List (ByteArray×Int)):Prop:=l.Pairwise (fun a b=>¬b.1.data.toList < a.1.data.toList)
theorem yT(a b:ByteArray):Op.bytesLess a.toList b.toList=true ↔ a.data.toList < b.data.toList:=by
 rw[Go.Proofs.bytesLess_eq,ByteArray.toList_eq,ByteArray.toList_eq];simp
theorem rE:∀(l:List (ByteArray×Int)) (x:ByteArray×Int),(cP l x).Perm (x :: l)
 |[],x=> .refl _
 |y :: r,x=>by
  unfold cP;split
  ·exact .refl _
  ·exact((rE r x).cons y).trans (.swap x y r)
theorem qS:∀(l:List (ByteArray×Int)) (x:ByteArray×Int),nJ l->nJ (cP l x)
 |[],x,_=>by simp[cP,nJ]
 |y :: r,x,h=>by
  obtain⟨h1,h2⟩:=List.pairwise_cons.1 h;unfold cP;split
  ·rename_i hlt
   rw[yT]at hlt;refine List.pairwise_cons.2 ⟨fun z hz=> ?_,h⟩;rcases List.mem_cons.1 hz with rfl|hz
   ·exact fun h'=>List.lt_irrefl _ (List.lt_trans hlt h')
   ·exact fun h'=>h1 z hz (List.lt_trans h' hlt)
  ·rename_i hlt
   rw[yT]at hlt;refine List.pairwise_cons.2 ⟨fun z hz=> ?_,qS r x h2⟩;rcases List.mem_cons.1 ((rE r x).mem_iff.1 hz)with rfl|hz
   ·exact hlt
   ·exact h1 z hz
theorem yO:∀{l m:List (ByteArray×Int)},nJ l->m.Pairwise (fun a b=>a.1.data.toList < b.1.data.toList)->l.Perm m->l=m
 |[],m,_,_,hp=>by rw[hp.nil_eq]
 |x :: l,[],_,_,hp=>by simpa using hp.length_eq
 |x :: l,y :: m,hl,hm,hp=>by
  obtain⟨l1,l2⟩:=List.pairwise_cons.1 hl;obtain⟨m1,m2⟩:=List.pairwise_cons.1 hm;have hxy:x=y:=by
   rcases List.mem_cons.1 (hp.mem_iff.1 (List.mem_cons_self (a:=x) (l:=l)))with h|h
   ·exact h
   ·rcases List.mem_cons.1 (hp.mem_iff.2 (List.mem_cons_self (a:=y) (l:=m)))with h'|h'
    ·exact h'.symm
    ·exact absurd (m1 x h) (l1 y h')
  subst hxy;rw[yO l2 m2 ((List.perm_cons x).1 hp)]
def iG(ks:List aS)(P:List aL):List (ByteArray×Int):=P.foldl (fun l t=>cP l (t.id,cQ ks t)) []
theorem vP(ks:List aS)(P:List aL)(t:aL):iG ks (P++ [t])=cP (iG ks P) (t.id,cQ ks t):=by simp[iG]
theorem sN(ks:List aS):∀n (P:List aL),P.length=n->nJ (iG ks P)/\(iG ks P).Perm (mN ks P)
 |0,P,h=>by
  obtain rfl:=List.length_eq_zero_iff.1 h;exact⟨List.Pairwise.nil,.refl _⟩
 |n+1,P,h=>by
  obtain⟨P',t,rfl⟩:∃P' t,P=P'++ [t]:=⟨P.dropLast,P.getLast (by intro e;rw[e]at h;cases h),(List.dropLast_concat_getLast _).symm⟩;simp at h;obtain⟨h1,h2⟩:=sN ks n P' h;rw[vP];refine⟨qS _ _ h1,(rE _ _).trans ?_⟩;have e:mN ks (P'++ [t])=mN ks P'++ [(t.id,cQ ks t)]:=by simp[mN]
  rw[e];exact(h2.cons _).trans (List.perm_append_singleton _ _).symm
theorem aBf(ks:List aS)(P:List aL):(iG ks P).length=P.length:=by
 rw[(sN ks _ P rfl).2.length_eq,vF]
theorem aEy{ks:List aS}{kind arg:Int}(hp:cD ks kind arg=true){P:List aL}(h:P.Perm (dH ks kind arg)):iG ks P=mN ks (dH ks kind arg):=by
 obtain⟨h1,h2⟩:=sN ks _ P rfl;refine yO h1 ?_ (h2.trans (h.map _));exact List.pairwise_map.2 (uE hp)
end Go.Proofs.YtfanaanofjhlkaaGreatDoor
namespace Go.Proofs.YtfanaanofjhlkaaGreatDoor
open Go Go.RowKit Tryz
theorem aIp(l:List aL):∀(j:Nat) (t:aL),l[j]?= some t->(fT l)[j*3]?= some (.string t.id)/\(fT l)[j*3+1]?= some (.int .i64 t.kind)/\(fT l)[j*3+2]?= some (.int .i64 t.arg):=by
 induction l with
 |nil=>intro j d h;simp at h
 |cons e r ih=>
  intro j p h;unfold fT;rw[List.flatMap_cons];cases j with
  |zero=>simp at h;subst h;exact⟨rfl,rfl,rfl⟩
  |succ j=>
   obtain⟨h1,h2,h3⟩:=ih j p (by simpa using h);rw[show(j+1)*3=j*3+3 from by omega];refine⟨?_,?_,?_⟩
   ·rw[i7 (by simp)]
    have e:j*3+3 - [Value.string e.id,Value.int .i64 e.kind,Value.int .i64 e.arg].length=j*3:=by simp
    rw[e];exact h1
   ·rw[i7 (by simp)]
    have e:j*3+3+1 - [Value.string e.id,Value.int .i64 e.kind,Value.int .i64 e.arg].length=j*3+1:=by simp
    rw[e];exact h2
   ·rw[i7 (by simp)]
    have e:j*3+3+2 - [Value.string e.id,Value.int .i64 e.kind,Value.int .i64 e.arg].length=j*3+2:=by simp
    rw[e];exact h3
theorem aCw(l m:List aL):fT (l++m)=fT l++fT m:=by simp[fT]
theorem aDx(l:List aL):(fT l).length=l.length*3:=by
 induction l with
 |nil=>rfl
 |cons x r ih=>unfold fT at ih ⊢;simp[ih];omega
theorem aIn(l:List aL):∀u∈fT l,u.oneCell'=true:=by
 intro u hu;obtain⟨t,_,ht⟩:=List.mem_flatMap.1 hu;simp at ht;rcases ht with rfl|rfl|rfl<;>rfl
theorem qA{ks:List aS}{kind arg:Int}(hp:cD ks kind arg=true)(t:aL):(aW ks t).length<=3:=by
 have key:∀(id:ByteArray) (x:Int) (l:List eI) (i:Nat),(dX id x i l).length<=l.length:=by
  intro id x l
  induction l with
  |nil=>intro i;simp[dX]
  |cons c r ih=>
   intro i;unfold dX;have:=ih (i+1);split
   ·simp;omega
   ·simp;omega
 have h1:=key t.id t.arg (jH ks t.kind).kids 0;have h2:=zB ks kind arg hp t.kind;unfold aW;omega
theorem aKw{W:World}{base e size n g cap:Nat}{xs:List Value}(h:W.ownsRow base e size (.slice (some ⟨g,0,none⟩) n cap) n xs):∀j u,xs[j]?= some u->W.cell? ((⟨g,0,none⟩:Addr).add j)=some u:=fun j u hj=>h.cells (g:=g) rfl j u hj
theorem uY(a:Option Addr)(cap:Nat)(kind arg:Int)(ks:List aS)(w:World)(hk:bH (fun _=>True) w (.slice a ks.length cap) ks)(hl:ks.length<=9223372036854775806)(hl2:∀k∈ks,k.kids.length<=9223372036854775806) :
  Calls prog 125 #[.agg #[.slice a ks.length cap,.int .i64 kind,.int .i64 arg]] w fun e w'=>∃v,e= .returned (.tuple #[v,.int .i64 (eC ks kind arg).1])/\
   w'.ownsRow w.heap.size 92 2 v (eC ks kind arg).2.length (nD ks (eC ks kind arg).2)/\Below w.heap.size w w':=by
 obtain⟨V,hV⟩:∃V,w.alloc (Obj.cells #[.slice a ks.length cap,.int .i64 kind,.int .i64 arg] 41)=V:=⟨_,rfl⟩;have bV:aD V w.heap.size 41 #[.slice a ks.length cap,.int .i64 kind,.int .i64 arg]:=by rw[<-hV];exact aD.new _ _ _
 have hbV:Below w.heap.size w V:=by rw[<-hV];exact(e_ _ _).alloc (a_ _) _
 have sV:V.heap.size=w.heap.size+1:=by rw[<-hV];simp
 have kV:bH (fun b=>True/\b < w.heap.size) V (.slice a ks.length cap) ks:=hk.below.kept (aB.of_below (X:=fun b=>w.heap.size<=b) hbV (fun _ _ h=>h)) (fun b h=>by omega);have z0:=bV.cell (o:=0) rfl;have z1:=bV.cell (o:=1) rfl;have z2:=bV.cell (o:=2) rfl;have HIP:=zZ (.slice a ks.length cap) kind arg ks _ V kV hl hl2;have HIP':Hid (Calls prog 180 #[.agg #[.slice a ks.length cap,.int .i64 kind,.int .i64 arg]] V fun e w'=>e= .returned (.bool (cD ks kind arg))/\Below V.heap.size V w'):=HIP;clear HIP;go_enter func125,ntmps125;by_cases hprog:cD ks kind arg=true
 case neg=>
  have hu:eC ks kind arg=(3,[]):=by simp[eC,hprog]
  have hf:cD ks kind arg=false:=by simpa using hprog
  rw[hf]at HIP';rw[hu];clear hf hprog hu
  go_wp2_with fail
  refine HIP'.out.mono ?_;rintro e w1 ⟨rfl,hb1⟩
  go_wp2_with fail
  go_ret2
  exact⟨_,rfl,World.ownsRow_nil _ _ _ _,hbV.trans (hb1.mono (by omega))⟩
 rw[hprog]at HIP';have hlen5:ks.length<=5:=by simp[cD,dF]at hprog;omega
 have hkr:0<=kind/\kind < ks.length/\0<=arg/\arg<=12:=by simp[cD,dF,jI]at hprog;omega
 have hGr:gO ks ⟨⟨#[]⟩,kind,arg⟩:=⟨hkr.1,hkr.2.1,hkr.2.2.1,by simp[ByteArray.size];omega⟩;obtain⟨i0,hi,hz0,hz1,hz2⟩:=info_parts jU
 go_wp2_with fail
 refine HIP'.out.mono ?_;rintro e w1 ⟨rfl,hb1⟩;have hs1:=hb1.size;have b1:=bV.below hb1 bV.lt;have p1:=b1.cell (o:=1) rfl;have p2:=b1.cell (o:=2) rfl;have hbw1:Below w.heap.size w w1:=hbV.trans (hb1.mono (by omega));have k1:bH (fun b=>True/\b < w.heap.size) w1 (.slice a ks.length cap) ks:=kV.kept (aB.of_below (X:=fun b=>V.heap.size<=b) hb1 (fun _ _ h=>h)) (fun b h=>by omega);clear hV HIP' kV z0 z1 z2
 go_wp2_with fail
 go_loopw [5,6,7] (fun lv tv i wr=>∃(P Q:List aL),i= .int .i64 P.length/\P.length<=200/\(P++Q).length<=1+3*P.length/\jY ks ⟨⟨#[]⟩,kind,arg⟩ P Q/\wr.ownsRow w1.heap.size 62 3 tv (P++Q).length (fT (P++Q))/\wr.ownsRow w1.heap.size 92 2 lv (iG ks P).length (fI (iG ks P))/\Below w1.heap.size w1 wr) (fun _ _ i _=>201 - (intOf i).toNat)
 case atStart=>
  refine⟨[],[⟨⟨#[]⟩,kind,arg⟩],rfl,by simp,by simp,jY.start hGr hkr.2.2.2,?_,World.ownsRow_nil _ _ _ _,(e_ _ _).alloc (a_ _) _⟩;exact rM _ w1.heap.size w1.heap.size 62 3 1 _ _ rfl (a_ _) rfl rfl (by unfold maxLen;omega)
 case round=>
  obtain⟨P,Q,rfl,hP,hPQ,hQ,htv,hlv,hbr⟩:=hrel
  rename World=>Wo
  have hszo:=hbr.size;have HQ:Hid (jY ks ⟨⟨#[]⟩,kind,arg⟩ P Q):=hQ;have HTV:Hid (Wo.ownsRow w1.heap.size 62 3 u6 (P++Q).length (fT (P++Q))):=htv;have HLV:Hid (Wo.ownsRow w1.heap.size 92 2 u5 (iG ks P).length (fI (iG ks P))):=hlv;obtain⟨ta,tcap,hte,htc⟩:=jL htv;have hsl:=aBf ks P;have b2:=b1.below hbr b1.lt;have lb:=b1.lt;have q0:=b2.cell (o:=0) rfl;have q1:=b2.cell (o:=1) rfl;have q2:=b2.cell (o:=2) rfl;have hbw:Below w.heap.size w Wo:=hbw1.trans (hbr.mono hbw1.size);have kW:bH (fun b=>True/\b < w.heap.size) Wo (.slice a ks.length cap) ks:=k1.kept (aB.of_below (X:=fun b=>w1.heap.size<=b) hbr (fun _ _ h=>h)) (fun b h=>by have:=hbw1.size;omega);clear htv hlv hQ p1 p2;cases Q with
  |nil=>
   have hperm:=HQ.out.end;have hsa:=aEy hprog (show P.Perm (dH ks kind arg)from hperm);have hll:(dH ks kind arg).length<=200:=by
    have:P.length=(dH ks kind arg).length:=hperm.length_eq;omega
   have hu:eC ks kind arg=(0,dH ks kind arg):=by simp[eC,hprog,hll]
   rw[List.append_nil]at hte;subst hte;have HU:Hid (eC ks kind arg=(0,dH ks kind arg)):=hu;have HRES:Hid (Wo.ownsRow w.heap.size 92 2 u5 (dH ks kind arg).length (nD ks (dH ks kind arg))):=by
    show Wo.ownsRow _ _ _ _ _ _;rw[aAz,<-hsa,<-vF ks,<-hsa];exact aP HLV.out (aB.refl (fun _=>False) _) (fun _ _ h=>h) (by omega)
   clear hsa hu hll hperm
   go_wp2_with fail
   go_ret2
   rw[HU.out];exact⟨_,rfl,HRES.out,hbw⟩
  |cons t Q=>
   have hmore:=HQ.out.more;have hPlt:P.length < (P++t :: Q).length:=by simp
   by_cases h200:P.length < 200
   case neg=>
    have hbig:¬(dH ks kind arg).length<=200:=by
     have:P.length+1<=(dH ks kind arg).length:=hmore;omega
    have hu:eC ks kind arg=(4,[]):=by simp[eC,hprog,hbig]
    subst hte;have HU:Hid (eC ks kind arg=(4,[])):=hu;clear hu hbig hmore
    go_wp2_with fail
    go_ret2
    rw[HU.out];exact⟨_,rfl,World.ownsRow_nil _ _ _ _,hbw⟩
   obtain⟨hG,h12⟩:=HQ.out.2 t (by simp);have hcl:=qA hprog t;have hgt:(P++t :: Q)[P.length]?= some t:=by simp
   obtain⟨c0,c1,c2⟩:=aIp _ _ _ hgt;obtain⟨g,rfl,hg1,hg2,e0⟩:=htc _ _ c0;obtain⟨g',ee,_,_,e1⟩:=htc _ _ c1;cases ee;obtain⟨g',ee,_,_,e2⟩:=htc _ _ c2;cases ee;subst hte;have j1:(0:Int)<=(P.length:Int):=by omega
   have j2:(P.length:Int) < ((P++t :: Q).length:Int):=by omega
   obtain⟨N,hN⟩:∃N,(P++t :: Q).length=N:=⟨_,rfl⟩;have HNeq:Hid ((P++t :: Q).length=N):=hN;rw[hN]at j2 hPlt hPQ HTV ⊢;clear hN;have hkU:∀U,Below Wo.heap.size Wo U->bH (fun b=>True/\b < w.heap.size) U (.slice a ks.length cap) ks:=fun U hU=>kW.kept (aB.of_below (X:=fun b=>Wo.heap.size<=b) hU (fun _ _ h=>h)) (fun b h=>by have:=hbw.size;omega)
   have HVAL:Hid (∀U,Below Wo.heap.size Wo U->Calls prog 132 #[.agg #[.slice a ks.length cap,.int .i64 kind,.int .i64 arg],.agg #[.string t.id,.int .i64 t.kind,.int .i64 t.arg]] U fun e w'=>∃v,e= .returned v/\(v= .agg #[.string t.id,.int .i64 (cQ ks t)]/\Below Wo.heap.size Wo w')):=fun U hU=>
    (sK _ kind arg ks t _ U (hkU U hU) hprog hG.1 hG.2.1 hG.2.2.1 h12).mono fun e w' h=>⟨_,h.1,rfl,hU.trans (h.2.mono hU.size)⟩
   have HPUT:Hid (∀U,Below Wo.heap.size Wo U->Calls prog 131 #[u5,.agg #[.string t.id,.int .i64 (cQ ks t)]] U fun e w'=>∃v,e= .returned v/\(w'.ownsRow w1.heap.size 92 2 v (iG ks (P++ [t])).length (fI (iG ks (P++ [t])))/\Below Wo.heap.size Wo w')):=fun U hU=>by
    have hrowU:=gP HLV.out hU (fun g' hg'=>(HLV.out.lt g' hg').2);refine(uF u5 (iG ks P) (t.id,cQ ks t) U (tB hrowU).2 (by omega)).mono ?_;rintro e w' ⟨v,rfl,h1,h2⟩;rw[vP];exact⟨v,rfl,aP h1 (aB.refl (fun _=>False) _) (fun _ _ h=>h) (by have:=hU.size;have:=hbw.size;omega),hU.trans (h2.mono hU.size)⟩
   have HCHI:Hid (∀U,Below Wo.heap.size Wo U->Calls prog 130 #[.agg #[.slice a ks.length cap,.int .i64 kind,.int .i64 arg],.agg #[.string t.id,.int .i64 t.kind,.int .i64 t.arg]] U fun e w'=>∃v,e= .returned v/\(w'.ownsRow Wo.heap.size 62 3 v (aW ks t).length (fT (aW ks t))/\(aW ks t=[]->v= .slice none 0 0)/\Below U.heap.size U w'/\Below Wo.heap.size Wo w')):=fun U hU=>by
    refine(sF _ a cap kind arg ks t U (hkU U hU) hprog hG).mono ?_;rintro e w' ⟨v,rfl,h1,h2,h3⟩;exact⟨v,rfl,aP h1 (aB.refl (fun _=>False) _) (fun _ _ h=>h) hU.size,h2,h3,hU.trans (h3.mono hU.size)⟩
   clear kW hkU
   go_upto_region 11 with fail
   go_cut [5] (fun lv wx=>wx.ownsRow w1.heap.size 92 2 lv (iG ks (P++ [t])).length (fI (iG ks (P++ [t])))/\Below Wo.heap.size Wo wx)
   case first=>
    go_region_law (first
     |(refine dY (by rfl) 132 _ _ _ (by rfl) (.agg #[.slice a ks.length cap,.int .i64 kind,.int .i64 arg]) (.agg #[.string t.id,.int .i64 t.kind,.int .i64 t.arg]) (by rfl) (by rfl) (enters_of func132 (by kernel_rfl) rfl) (HVAL.out _ (by first|assumption|exact e_ _ _|exact(e_ _ _).drew|exact Below.drew (by assumption))) ?_;rintro v9 w9 ⟨rfl,hb9⟩)
     |(refine dY (by rfl) 131 _ _ _ (by rfl) u5 (.agg #[.string t.id,.int .i64 (cQ ks t)]) (by rfl) (by rfl) (enters_of func131 (by kernel_rfl) rfl) (HPUT.out _ (by first|assumption|exact e_ _ _|exact(e_ _ _).drew|exact Below.drew (by assumption))) ?_;rintro v8 w8 ⟨hrow8,hb8⟩))
    all_goals
     go_wp2_with fail
     go_meet
     case rel=>exact⟨hrow8,hb8⟩
   case rest=>
   obtain⟨hlv',hbU⟩:=hcut;obtain⟨U,rfl⟩:∃U,U=wc:=⟨_,rfl⟩;have HLV':Hid (U.ownsRow w1.heap.size 92 2 u5 (iG ks (P++ [t])).length (fI (iG ks (P++ [t])))):=hlv';have hszU:=hbU.size;have b3:=b2.below hbU b2.lt;have lb2:=b2.lt;clear q0 q1 q2 hlv';have q0:=b3.cell (o:=0) rfl;have q1:=b3.cell (o:=1) rfl;have q2:=b3.cell (o:=2) rfl;have f0:=(hbU.cell (p:=⟨g,_,none⟩) hg2).trans e0;have f1:=(hbU.cell (p:=⟨g,_,none⟩) hg2).trans e1;have f2:=(hbU.cell (p:=⟨g,_,none⟩) hg2).trans e2;clear e0 e1 e2;have HTU:Hid (∀Y,Below U.heap.size U Y->Y.ownsRow w1.heap.size 62 3 (.slice (some ⟨g,0,none⟩) N tcap) N (fT (P++t :: Q))):=fun Y hY=>gP (gP HTV.out hbU (fun g' hg'=>(HTV.out.lt g' hg').2)) hY (fun g' hg'=>Nat.lt_of_lt_of_le (HTV.out.lt g' hg').2 hszU)
   go_upto_region 12 with fail
   have hPQ':(P++ [t]++(Q++aW ks t))=(P++t :: Q)++aW ks t:=by simp
   have HPQ:Hid (P++ [t]++(Q++aW ks t)=(P++t :: Q)++aW ks t):=hPQ';have HNN:Hid ((P++t :: Q).length=N):=HNeq;clear hPQ';by_cases hch:aW ks t=[]
   ·have HCE:Hid (aW ks t=[]):=hch
    clear hch
    go_region_law (first
     |(refine dY (by rfl) 130 _ _ _ (by rfl) (.agg #[.slice a ks.length cap,.int .i64 kind,.int .i64 arg]) (.agg #[.string t.id,.int .i64 t.kind,.int .i64 t.arg]) (by rfl) (by rfl) (enters_of func130 (by kernel_rfl) rfl) (HCHI.out _ (by first|exact hbU|exact hbU.drew)) ?_;rintro v9 w9 ⟨hr9,hn9,hU9,hb9⟩;obtain rfl:=hn9 HCE.out;have hbU9:Below U.heap.size U w9:=by first|exact hU9|exact(e_ _ U).drew.trans hU9)
     |(refine aAt (by rfl) _ _ _ (by rfl) w1.heap.size 62 i0 3 underlying58 hi (.slice (some ⟨g,0,none⟩) N tcap) N (fT (P++t :: Q)) (by rfl) (HTU.out _ (by first|assumption|exact Below.drew (by assumption))) (by rfl) ?_))
    all_goals
     go_wp2_with fail
     go_roundw
     case rel=>
      refine⟨P++ [t],Q++aW ks t,by simp,by simp;omega,?_,jY.step hprog HQ.out,?_,gP HLV'.out hbU9 (fun g' hg'=>(HLV'.out.lt g' hg').2),(hbr.trans (hbU.mono hszo)).trans (hbU9.mono (by omega))⟩
      ·rw[HPQ.out,HCE.out,List.append_nil,HNN.out];simp;omega
      ·rw[HPQ.out,HCE.out,List.append_nil,HNN.out];exact HTU.out _ hbU9
     case measure=>simp[intOf];omega
   ·obtain⟨m,hm⟩:∃m,(aW ks t).length=m:=⟨_,rfl⟩
    have hm0:0 < m:=by
     rw[<-hm];exact List.length_pos_iff.2 hch
    have HM:Hid ((aW ks t).length=m):=hm;rw[hm]at hcl;have hN4:N<=700:=by omega
    clear hm hch
    go_region_law (first
     |(refine dY (by rfl) 130 _ _ _ (by rfl) (.agg #[.slice a ks.length cap,.int .i64 kind,.int .i64 arg]) (.agg #[.string t.id,.int .i64 t.kind,.int .i64 t.arg]) (by rfl) (by rfl) (enters_of func130 (by kernel_rfl) rfl) (HCHI.out _ (by first|exact hbU|exact hbU.drew)) ?_;rintro v9 w9 ⟨hr9,hn9,hU9,hb9⟩;rw[HM.out]at hr9;obtain⟨g9,c9,rfl,hg91,hg92⟩:=World.ownsRow.form hr9 hm0;have hbU9:Below U.heap.size U w9:=by first|exact hU9|exact(e_ _ U).drew.trans hU9)
     |(refine step_append_lies _ (by rfl) _ _ _ (by rfl) w1.heap.size 62 i0 _ 3 32 underlying58 hi hz0 hz1 hz2 rfl (by omega) (.slice (some ⟨g,0,none⟩) N tcap) N (fT (P++t :: Q)) (by rfl) (HTU.out _ (by first|assumption|exact Below.drew (by assumption))) ⟨g9,0,none⟩ m c9 (fT (aW ks t)) (by rfl) (by rw[aDx,HM.out]) (aKw hr9) (aIn _) hm0 (by unfold maxLen;omega) (by omega) (by have:=hbU9.size;have:=hbw.size;simp;omega) w9.heap.size (by simp) ?_;intro g8 cp8 w8 hown8 hgrow8 hat8 hlt8))
    all_goals
     go_wp2_with fail
     go_roundw
     case rel=>
      have hrw:∀q,Value.ownBlock (.slice (some ⟨g,0,none⟩) N tcap)=some q->w1.heap.size<=q:=fun q e=>(HTV.out.lt q e).1
      refine⟨P++ [t],Q++aW ks t,by simp,by simp;omega,?_,jY.step hprog HQ.out,?_,?_,?_⟩
      ·rw[HPQ.out,f_,HNN.out,HM.out];simp;omega
      ·rw[HPQ.out,f_,HNN.out,HM.out,aCw];exact hown8
      ·have hL9:w9.ownsRow w1.heap.size 92 2 u5 (iG ks (P++ [t])).length (fI (iG ks (P++ [t]))):=gP HLV'.out hbU9 (fun g' hg'=>(HLV'.out.lt g' hg').2)
       have hT9:=HTU.out _ hbU9;have hk9:aB (fun b=>Value.ownBlock (.slice (some ⟨g,0,none⟩) N tcap)=some b) w9 w8:=by
        have:=aB.grown hgrow8 (X:=fun b=>Value.ownBlock (.slice (some ⟨g,0,none⟩) N tcap)=some b) (fun r e=>e);exact⟨this.os,this.tape,this.output,this.size,this.block⟩
       refine aP hL9 hk9 (fun g' hg' hx=> ?_) (a_ _);obtain⟨cs,hcs⟩:=eO hL9 hg';obtain⟨cs2,hcs2⟩:=eO hT9 hx;rw[hcs]at hcs2;simp at hcs2
      ·have hb9':Below w1.heap.size w1 w9:=(hbr.trans (hbU.mono hszo)).trans (hbU9.mono (by omega))
       have:=hb9'.grown hgrow8 (by have:=hb9'.size;omega) hrw;exact this
     case measure=>simp[intOf];omega
theorem aCy{P:Program}(w:World)(dT sT ty elem k:TypeId)(g dLen dCap:Nat)(a:Addr)(sLen sCap:Nat)(cur:Array Value)(t:TypeId)(cs:List Value)
  (hu:P.underlying dT=some (.slice elem)) (hs:(P.info? elem).map (·.size)=some k) (hle:sLen<=dLen)
  (hg:w.heap[g]?= some (.cells cur t (0,0))) (hn:cs.length=sLen*k)
  (hsrc:∀j v,cs[j]?= some v->w.cell? (a.add j)=some v) (hfit:cs.length<=cur.size) (h1:∀v∈cs,v.oneCell'=true) :
  (Builtin.copy_ #[dT,sT] ty #[.slice (some ⟨g,0,none⟩) dLen dCap,.slice (some a) sLen sCap]).run P w =
   .ok (goInt sLen) (w.setRow g (cs++cur.toList.drop cs.length).toArray):=by
 have hl:=run_loadCells_list (P:=P) w a cs hsrc;have hst:=run_storeCells_at P g 0 t cs 0 cur w hg (by simpa using hfit) h1;have hmin:Nat.min sLen dLen=sLen:=Nat.min_eq_left hle;cases hq:P.info? elem with
 |none=>simp[hq]at hs
 |some i=>
  have hi:i.size=k:=by simpa[hq]using hs
  simp[Builtin.copy_,run_underlying hu,Builtin.lenOf,Builtin.firstCells,sizeOf,typeInfo,hq,hi,hmin,<-hn,hl,hst]
theorem aEx{P:Program}{w:World}{ops:Array Oper}{rest:List Oper}{o:Oper}{a:Act}{Q:Exit->Act->World->Prop}(hgd:o.guard=none)(d s:Operand)(dT sT:TypeId)
  (ho:o.op= .call {callee:= .builtin .copy,args:=#[d,s],argTypes:=#[dT,sT]}) (elem k:TypeId) (hu:P.underlying dT=some (.slice elem)) (hsz:(P.info? elem).map (·.size)=some k)
  (g dLen dCap:Nat) (sp:Option Addr) (sLen sCap:Nat) (hd:a.eval d= .slice (some ⟨g,0,none⟩) dLen dCap) (hs:a.eval s= .slice sp sLen sCap) (hle:sLen<=dLen)
  (cur:Array Value) (t:TypeId) (hg:aD w g t cur) (cs:List Value) (hn:cs.length=sLen*k)
  (hsrc:∀ad,sp=some ad->∀j v,cs[j]?= some v->w.cell? (ad.add j)=some v) (hnone:sp=none->sLen=0) (hfit:cs.length<=cur.size) (h1:∀v∈cs,v.oneCell'=true)
  (h:∀w',Hid (aD w' g t (cs++cur.toList.drop cs.length).toArray)->Hid (aB (·= g) w w')->w'.heap.size=w.heap.size->wpList P ops Q rest (a.put o.dst (goInt sLen)) w'):wpList P ops Q (o :: rest) a w:=by
 refine wpList_plain hgd fun K hK=> ?_
 cases sp with
 |none=>
  obtain rfl:=hnone rfl;obtain rfl:cs=[]:=List.eq_nil_of_length_eq_zero (by simpa using hn);have hrun:(Builtin.copy_ #[dT,sT] o.type #[.slice (some ⟨g,0,none⟩) dLen dCap,.slice none 0 sCap]).run P w= .ok (goInt 0) w:=by
   cases hq:P.info? elem with
   |none=>simp[hq]at hsz
   |some i=>simp[Builtin.copy_,run_underlying hu,Builtin.lenOf,Builtin.firstCells,sizeOf,typeInfo,hq,storeCells]
  unfold Oper.wp;simp[execOp,ho,resolve,invoke,builtin,hd,hs,hrun,Result.andThen];exact hK _ _ (h w (show aD _ _ _ _ by simpa using hg) (aB.refl _ _) rfl)
 |some ad=>
  have hrun:=aCy (P:=P) w dT sT o.type elem k g dLen dCap ad sLen sCap cur t cs hu hsz hle hg hn (hsrc ad rfl) hfit h1;unfold Oper.wp;simp[execOp,ho,resolve,invoke,builtin,hd,hs,hrun,Result.andThen];refine hK _ _ (h _ (show aD _ _ _ _ from setRow_heap w g _ _ t _ hg) ⟨rfl,rfl,rfl,by simp[World.setRow],fun b _ hb=>setRow_other w g b _ hb⟩ (by simp[World.setRow]))
theorem xS{W:World}{base e size n g:Nat}{xs:List Value}(h:W.ownsRow base e size (.slice (some ⟨g,0,none⟩) n n) n xs):∃cur,aD W g e cur/\cur.size=n*size:=by
 rcases h.2 with⟨e',_⟩|⟨g',cap,cur,e',_,hgb,_,_,hsz,_⟩
 ·cases e'
 ·cases e'
  exact⟨cur,hgb,hsz⟩
def mL(W:World)(B:Nat)(l:List eI):Prop:=
 ∃cs,aD W B 53 cs/\cs.size=(l.length+8)*2/\(∀j d,l[j]?= some d->cs[j*2]?= some (.int .i64 d.kind)/\cs[j*2+1]?= some (.int .i64 d.less))/\
  ∀j,l.length<=j->j < l.length+8->cs[j*2]?= some (.int .i64 0)/\cs[j*2+1]?= some (.int .i64 (-77))
theorem mL.kept{X:Nat->Prop}{W W':World}{B:Nat}{l:List eI}(h:mL W B l)(k:aB X W W')(hx:¬X B):mL W' B l:=by
 obtain⟨cs,h1,h2⟩:=h;exact⟨cs,h1.kept k hx,h2⟩
def oW(W:World)(BL:Nat)(K:Nat->Nat)(ks:List aS)(m:Nat)(cs:Array Value):Prop:=
 (∀j c,j < m->ks[j]?= some c->(cs[j*3]?= some (.int .i64 c.A)/\cs[j*3+1]?= some (.int .i64 c.B)/\cs[j*3+2]?= some (.slice (some ⟨K j,0,none⟩) c.kids.length (c.kids.length+8)))/\mL W (K j) c.kids/\BL < K j/\K j < W.heap.size)/\
 ∀j j',j < j'->j' < m->j' < ks.length->K j < K j'
def kI(W:World)(BL:Nat)(K:Nat->Nat)(ks:List aS):Prop:=
 ∃cs,aD W BL 56 cs/\cs.size=(ks.length+8)*3/\oW W BL K ks ks.length cs/\
  ∀j,ks.length<=j->j < ks.length+8->cs[j*3]?= some (.int .i64 (-78))/\cs[j*3+1]?= some (.int .i64 0)/\cs[j*3+2]?= some (.slice none 0 0)
theorem zT(cs:Array Value)(q:Nat)(a b:Value)(h:q*2+1 < cs.size) :
  ((cs.setIfInBounds (q*2) a).setIfInBounds (q*2+1) b).size=cs.size/\((cs.setIfInBounds (q*2) a).setIfInBounds (q*2+1) b)[q*2]?= some a/\((cs.setIfInBounds (q*2) a).setIfInBounds (q*2+1) b)[q*2+1]?= some b/\
  ∀j,j≠q->((cs.setIfInBounds (q*2) a).setIfInBounds (q*2+1) b)[j*2]?= cs[j*2]?/\((cs.setIfInBounds (q*2) a).setIfInBounds (q*2+1) b)[j*2+1]?= cs[j*2+1]?:=by
 refine⟨by simp,?_,?_,fun j hj=>⟨?_,?_⟩⟩
 ·rw[i_ (by omega),Array.getElem?_setIfInBounds_self_of_lt (by omega)]
 ·rw[Array.getElem?_setIfInBounds_self_of_lt (by simp;omega)]
 ·rw[i_ (by omega),i_ (by omega)]
 ·rw[i_ (by omega),i_ (by omega)]
theorem uV(cs:Array Value)(q:Nat)(a b c:Value)(h:q*3+2 < cs.size) :
  (((cs.setIfInBounds (q*3) a).setIfInBounds (q*3+1) b).setIfInBounds (q*3+2) c).size=cs.size/\(((cs.setIfInBounds (q*3) a).setIfInBounds (q*3+1) b).setIfInBounds (q*3+2) c)[q*3]?= some a/\(((cs.setIfInBounds (q*3) a).setIfInBounds (q*3+1) b).setIfInBounds (q*3+2) c)[q*3+1]?= some b/\(((cs.setIfInBounds (q*3) a).setIfInBounds (q*3+1) b).setIfInBounds (q*3+2) c)[q*3+2]?= some c/\
  ∀j,j≠q->(((cs.setIfInBounds (q*3) a).setIfInBounds (q*3+1) b).setIfInBounds (q*3+2) c)[j*3]?= cs[j*3]?/\(((cs.setIfInBounds (q*3) a).setIfInBounds (q*3+1) b).setIfInBounds (q*3+2) c)[j*3+1]?= cs[j*3+1]?/\(((cs.setIfInBounds (q*3) a).setIfInBounds (q*3+1) b).setIfInBounds (q*3+2) c)[j*3+2]?= cs[j*3+2]?:=by
 refine⟨by simp,?_,?_,?_,fun j hj=>⟨?_,?_,?_⟩⟩
 ·rw[i_ (by omega),i_ (by omega),Array.getElem?_setIfInBounds_self_of_lt (by omega)]
 ·rw[i_ (by omega),Array.getElem?_setIfInBounds_self_of_lt (by simp;omega)]
 ·rw[Array.getElem?_setIfInBounds_self_of_lt (by simp;omega)]
 ·rw[i_ (by omega),i_ (by omega),i_ (by omega)]
 ·rw[i_ (by omega),i_ (by omega),i_ (by omega)]
 ·rw[i_ (by omega),i_ (by omega),i_ (by omega)]
theorem dN{cs:Array Value}{i:Nat}(h:i < cs.size):∃v,cs[i]?= some v:=⟨_,Array.getElem?_eq_getElem h⟩
theorem wF(l:List eI):∀u∈gQ l,u.oneCell'=true:=by
 intro u hu;obtain⟨t,_,ht⟩:=List.mem_flatMap.1 hu;simp at ht;rcases ht with rfl|rfl<;>rfl
theorem mT(l:List eI):(gQ l).length=l.length*2:=by
 induction l with
 |nil=>rfl
 |cons x r ih=>unfold gQ at ih ⊢;simp[ih];omega
theorem wE{W:World}{a:Option Addr}{l:List eI}(h:∀j c,l[j]?= some c->∃b o,a=some ⟨b,o,none⟩/\True/\b < W.heap.size/\W.cell? ⟨b,o+j*2,none⟩=some (.int .i64 c.kind)/\W.cell? ⟨b,o+j*2+1,none⟩=some (.int .i64 c.less))(ad:Addr)(ha:a=some ad)(j:Nat)(v:Value)(hj:(gQ l)[j]?= some v):ad.block < W.heap.size/\W.cell? (ad.add j)=some v:=by
 have hlt:j < l.length*2:=by rw[<-mT];exact(c_.1 hj).1
 obtain⟨d,hd⟩:∃d,l[j / 2]?= some d:=⟨_,b_ (by omega)⟩;obtain⟨b,o,e,_,hb,c0,c1⟩:=h _ d hd;obtain⟨g0,g1⟩:=tC l _ d hd;rw[ha]at e;cases e;have hadd:(⟨b,o,none⟩:Addr).add j=⟨b,o+j,none⟩:=by unfold Addr.add;split<;>simp_all
 refine⟨hb,?_⟩;rw[hadd];rcases Nat.mod_two_eq_zero_or_one j with h2|h2
 ·have hjj:j / 2*2=j:=by omega
  rw[hjj]at c0 g0;rw[<-hj,g0,c0]
 ·have hjj:j / 2*2+1=j:=by omega
  rw[Nat.add_assoc,hjj]at c1;rw[hjj]at g1;rw[<-hj,g1,c1]
theorem aMl:(prog.info? 53).map (·.size)=some 2:=by kernel_rfl
theorem aIr(a:Option Addr)(cap:Nat)(kind arg:Int)(ks:List aS)(w:World)(hk:bH (fun _=>True) w (.slice a ks.length cap) ks)(hl:ks.length*40<=140737488351232)(hl2:∀k∈ks,k.kids.length*16<=140737488351232) :
  Calls prog 61 #[.agg #[.slice a ks.length cap,.int .i64 kind,.int .i64 arg]] w fun e w'=>∃BL K,e= .returned (.agg #[.slice (some ⟨BL,0,none⟩) ks.length (ks.length+8),.int .i64 kind,.int .i64 arg])/\
   kI w' BL K ks/\w.heap.size<=BL/\BL < w'.heap.size/\Below w.heap.size w w':=by
 obtain⟨i0,hi,hz0,hz1,hz2⟩:=info_parts uM;obtain⟨i1,hi1,hy0,hy1,hy2⟩:=info_parts uQ;go_enter func61,ntmps61
 go_upto_region 2 with fail
 obtain⟨V,hV⟩:∃V,((w.alloc (Obj.cells #[.slice a ks.length cap,.int .i64 kind,.int .i64 arg] 41)).alloc (Obj.cells #[.slice none 0 0,.int .i64 0,.int .i64 0] 41)).alloc (Obj.cells #[.slice a ks.length cap,.int .i64 kind,.int .i64 arg] 41)=V:=⟨_,rfl⟩;have bP:aD V w.heap.size 41 #[.slice a ks.length cap,.int .i64 kind,.int .i64 arg]:=by rw[<-hV];exact((aD.new w _ _).alloc _).alloc _
 have bR:aD V (w.heap.size+1) 41 #[.slice none 0 0,.int .i64 0,.int .i64 0]:=by
  rw[<-hV];have:=(aD.new (w.alloc (Obj.cells #[Value.slice a ks.length cap,Value.int IntKind.i64 kind,Value.int IntKind.i64 arg] 41)) 41 #[Value.slice none 0 0,.int .i64 0,.int .i64 0]).alloc (Obj.cells #[.slice a ks.length cap,.int .i64 kind,.int .i64 arg] 41);simpa only[World.size_alloc]using this
 have bX:aD V (w.heap.size+1+1) 41 #[.slice a ks.length cap,.int .i64 kind,.int .i64 arg]:=by
  rw[<-hV];have:=aD.new ((w.alloc (Obj.cells #[Value.slice a ks.length cap,Value.int IntKind.i64 kind,Value.int IntKind.i64 arg] 41)).alloc (Obj.cells #[Value.slice none 0 0,.int .i64 0,.int .i64 0] 41)) 41 #[.slice a ks.length cap,.int .i64 kind,.int .i64 arg];simpa only[World.size_alloc]using this
 have hbV:Below w.heap.size w V:=by rw[<-hV];exact(((e_ _ _).alloc (a_ _) _).alloc (by simp) _).alloc (by simp;omega) _
 have sV:V.heap.size=w.heap.size+3:=by rw[<-hV];simp
 rw[hV];clear hV;have p0:=bP.cell (o:=0) rfl
 go_wp2_with (at_make;refine wpList_make_full _ rfl _ _ 39 rfl V.heap.size 56 i0 _ 3 underlying39 hi hz0 hz1 .i64 .i64 _ _ (ks.length+8) rfl rfl (by simp) (by simp) (by rw[hz2];omega) (by unfold maxLen;omega) (a_ _) ?_;intro w1 hown1 hgrow1;have hkw1:aB (fun _=>False) V w1:=aB.grown hgrow1 (fun r e=>by cases e);have r0:=(bP.kept hkw1 (fun h=>h)).cell (o:=0) rfl)
 have hown1':w1.ownsRow (w.heap.size+3) 56 3 (.slice (some ⟨w.heap.size+3,0,none⟩) (ks.length+8) (ks.length+8)) (ks.length+8) (madeCells (Value.agg #[Value.int IntKind.i64 0,Value.int IntKind.i64 0,Value.slice none 0 0]).cells ((ks.length+8)*3)).toList:=by rw[<-sV];exact hown1
 obtain⟨cur,hcur,hcs⟩:=xS hown1';have hbw1:Below w.heap.size w w1:=hbV.trans (hkw1.below (by omega) (fun _ h=>h.elim));have bP1:=bP.kept hkw1 (fun h=>h);have bR1:=bR.kept hkw1 (fun h=>h);have bX1:=bX.kept hkw1 (fun h=>h);have hL1:=hcur.lt;clear hown1 hown1' hgrow1 p0 r0
 go_loopw [5] (fun iv wr=>∃(m:Nat) (K:Nat->Nat) (cs:Array Value),m<=ks.length/\iv= .int .i64 m/\aD wr (w.heap.size+3) 56 cs/\cs.size=(ks.length+8)*3/\oW wr (w.heap.size+3) K ks m cs/\aB (·= w.heap.size+3) w1 wr) (fun iv _=>ks.length - (intOf iv).toNat)
 case atStart=>exact⟨0,fun _=>0,cur,Nat.zero_le _,rfl,hcur,hcs,⟨fun j c h=>absurd h (Nat.not_lt_zero _),fun j j' _ h=>absurd h (Nat.not_lt_zero _)⟩,aB.refl _ _⟩
 case round=>
  obtain⟨m,K,cs,hm,rfl,hbl,hcsz,hlent,hkw⟩:=hrel
  rename World=>Wo
  have hszo:=hkw.size;have hbo:Below w.heap.size w Wo:=hbw1.trans (hkw.below (B:=w.heap.size) (by omega) (fun k e=>by omega));have bPo:=bP1.kept hkw (fun e=>by omega);have HLENT:Hid (oW Wo (w.heap.size+3) K ks m cs):=hlent;have HBL:Hid (aD Wo (w.heap.size+3) 56 cs):=hbl;have HKW:Hid (aB (·= w.heap.size+3) w1 Wo):=hkw;have p0:=bPo.cell (o:=0) rfl;clear hlent hbl hkw;by_cases hlt:m < ks.length
  ·obtain⟨c,hcc⟩:∃c,ks[m]?= some c:=⟨_,b_ hlt⟩
   have hk':=hk;obtain⟨_,_,e0,hc⟩:=hk';simp only[Value.slice.injEq]at e0;obtain⟨rfl,-,rfl⟩:=e0;obtain⟨b,o,kv,rfl,-,hbw,c0,c1,c2,hkk⟩:=hc m c hcc;obtain⟨a',cap',rfl,h'⟩:=hkk;have d0:=(hbo.cell (p:=⟨b,o+m*3,none⟩) hbw).trans c0;have d1:=(hbo.cell (p:=⟨b,o+m*3+1,none⟩) hbw).trans c1;have d2:=(hbo.cell (p:=⟨b,o+m*3+2,none⟩) hbw).trans c2;have hcl:=hl2 c (d_ hcc);have HSRC:Hid (∀ad,a'=some ad->∀j v,(gQ c.kids)[j]?= some v->ad.block < w.heap.size/\w.cell? (ad.add j)=some v):=fun ad ha j v hj=>wE h' ad ha j v hj
   have HNONE:Hid (a'=none->c.kids.length=0):=fun e=>by
    subst e;rcases Nat.eq_zero_or_pos c.kids.length with h|h
    ·exact h
    ·obtain⟨_,_,e,_⟩:=h' 0 _ (b_ h)
     cases e
   clear hc h' c0 c1 c2;have i1':(0:Int)<=(m:Int):=by omega
   have i2':(m:Int) < (ks.length:Int):=by omega
   have kb0:=aD.new Wo 56 #[.int .i64 c.A,.int .i64 c.B,.slice a' c.kids.length cap'];have kz2:=kb0.cell (o:=2) rfl;have HKB0:Hid (aD (Wo.alloc (.cells #[.int .i64 c.A,.int .i64 c.B,.slice a' c.kids.length cap'] 56)) Wo.heap.size 56 #[.int .i64 c.A,.int .i64 c.B,.slice a' c.kids.length cap']):=kb0;clear kb0
   go_upto_region 8 with(at_make;refine wpList_make_full _ rfl _ _ 54 rfl (Wo.heap.size+1) 53 i1 _ 2 underlying54 hi1 hy0 hy1 .i64 .i64 _ _ (c.kids.length+8) rfl rfl (by simp) (by simp) (by rw[hy2];omega) (by unfold maxLen;omega) (by simp) ?_;intro w2 hown2 hgrow2;have hk2:aB (fun _=>False) (Wo.alloc (.cells #[.int .i64 c.A,.int .i64 c.B,.slice a' c.kids.length cap'] 56)) w2:=aB.grown hgrow2 (fun r e=>by cases e);have HK2:Hid (aB (fun _=>False) (Wo.alloc (.cells #[.int .i64 c.A,.int .i64 c.B,.slice a' c.kids.length cap'] 56)) w2):=hk2;have kb2:=HKB0.out.kept hk2 (fun h=>h);have kc2:=kb2.cell (o:=2) rfl;clear hk2 kb2)
   have hszA:Wo.heap.size+1<=w2.heap.size:=by have:=HK2.out.size;simpa using this
   have hown2':w2.ownsRow (Wo.heap.size+1) 53 2 (.slice (some ⟨Wo.heap.size+1,0,none⟩) (c.kids.length+8) (c.kids.length+8)) (c.kids.length+8) (madeCells (Value.agg #[Value.int IntKind.i64 0,Value.int IntKind.i64 0]).cells ((c.kids.length+8)*2)).toList:=by simpa using hown2
   obtain⟨cur2,hcur2,hcs2⟩:=xS hown2';clear hown2 hown2' hgrow2;have hbo2:Below Wo.heap.size Wo w2:=((e_ _ Wo).alloc (a_ _) _).trans (HK2.out.below (by simp) (fun _ h=>h.elim));have hbw2:Below w.heap.size w w2:=hbo.trans (hbo2.mono hbo.size);have HSRC2:Hid (∀ad,a'=some ad->∀j v,(gQ c.kids)[j]?= some v->w2.cell? (ad.add j)=some v):=fun ad ha j v hj=>by
    obtain⟨h1,h2⟩:=HSRC.out ad ha j v hj;have hblk:(ad.add j).block=ad.block:=by unfold Addr.add;split<;>rfl
    exact(hbw2.cell (by rw[hblk];exact h1)).trans h2
   have HKB2:Hid (aD w2 Wo.heap.size 56 #[.int .i64 c.A,.int .i64 c.B,.slice a' c.kids.length cap']):=HKB0.out.kept HK2.out (fun h=>h)
   go_wp2_with (refine aEx rfl _ _ _ _ rfl 53 2 underlying54 aMl (Wo.heap.size+1) (c.kids.length+8) (c.kids.length+8) a' c.kids.length cap' rfl rfl (by omega) cur2 53 hcur2 (gQ c.kids) (mT _) HSRC2.out HNONE.out (by rw[mT,hcs2];omega) (wF _) ?_;intro w3 hb3 hk3 hs3;have kb3:=HKB2.out.kept hk3.out (fun e=>by omega);have kc3:=kb3.cell (o:=2) rfl;have HKB3:Hid (aD w3 Wo.heap.size 56 #[.int .i64 c.A,.int .i64 c.B,.slice a' c.kids.length cap']):=kb3;clear kb3)
   go_loopw [8] (fun jv wy=>∃(q:Nat) (cs2:Array Value),c.kids.length<=q/\q<=c.kids.length+8/\jv= .int .i64 q/\aD wy (Wo.heap.size+1) 53 cs2/\cs2.size=(c.kids.length+8)*2/\(∀j d,c.kids[j]?= some d->cs2[j*2]?= some (.int .i64 d.kind)/\cs2[j*2+1]?= some (.int .i64 d.less))/\(∀j,c.kids.length<=j->j < q->cs2[j*2]?= some (.int .i64 0)/\cs2[j*2+1]?= some (.int .i64 (-77)))/\aB (·= Wo.heap.size+1) w3 wy) (fun jv _=>c.kids.length+8 - (intOf jv).toNat)
   case atStart=>
    refine⟨c.kids.length,_,a_ _,by omega,rfl,hb3.out,?_,?_,fun j h1 h2=>absurd h2 (by omega),aB.refl _ _⟩
    ·simp[mT,hcs2];omega
    ·intro j d hd
     obtain⟨g0,g1⟩:=tC c.kids j d hd;have hj:=(c_.1 hd).1;rw[List.getElem?_toArray,List.getElem?_toArray,List.getElem?_append_left (by rw[mT];omega),List.getElem?_append_left (by rw[mT];omega)];exact⟨g0,g1⟩
   case round=>
    obtain⟨q,cs2,hq1,hq2,rfl,hbk,hszk,hkc,hsp,hkY⟩:=hrel
    rename World=>Wy
    have HBK:Hid (aD Wy (Wo.heap.size+1) 53 cs2):=hbk;have HKC:Hid (∀j d,c.kids[j]?= some d->cs2[j*2]?= some (.int .i64 d.kind)/\cs2[j*2+1]?= some (.int .i64 d.less)):=hkc;have HSP:Hid (∀j,c.kids.length<=j->j < q->cs2[j*2]?= some (.int .i64 0)/\cs2[j*2+1]?= some (.int .i64 (-77))):=hsp;have HKY:Hid (aB (·= Wo.heap.size+1) w3 Wy):=hkY;have hsY:=hkY.size;have HKBY:Hid (aD Wy Wo.heap.size 56 #[.int .i64 c.A,.int .i64 c.B,.slice a' c.kids.length cap']):=HKB3.out.kept hkY (fun e=>by omega);clear hkc hsp hkY hbk;by_cases hql:q < c.kids.length+8
    ·obtain⟨v0,hv0⟩:=dN (cs:=cs2) (i:=q*2) (by omega)
     obtain⟨v1,hv1⟩:=dN (cs:=cs2) (i:=q*2+1) (by omega);have y0:=HBK.out.cell hv0;have y1:=HBK.out.cell hv1;have z0:=HBK.out.frozen (q*2);have z1:=HBK.out.frozen (q*2+1);have j1:(0:Int)<=(q:Int):=by omega
     have j2:(q:Int) < (c.kids.length:Int)+8:=by omega
     go_wp2_with fail
     go_roundw
     case rel=>
      obtain⟨t1,t2,t3,t4⟩:=zT cs2 q (.int .i64 0) (.int .i64 (-77)) (by omega);refine⟨q+1,_,by omega,by omega,by go_num,(HBK.out.setAt (q*2) _).setAt (q*2+1) _,by rw[t1];exact hszk,fun j d hd=> ?_,fun j h1 h2=> ?_,(HKY.out.setCell (.inl rfl) _).setCell (.inl rfl) _⟩
      ·have hj:=(c_.1 hd).1
       rw[(t4 j (by omega)).1,(t4 j (by omega)).2];exact HKC.out j d hd
      ·rcases Nat.lt_or_ge j q with h|h
       ·rw[(t4 j (by omega)).1,(t4 j (by omega)).2]
        exact HSP.out j h1 h
       ·obtain rfl:j=q:=by omega
        exact⟨t2,t3⟩
     case measure=>simp[intOf];omega
    ·obtain rfl:q=c.kids.length+8:=by omega
     have k0:=HKBY.out.cell (o:=0) rfl;have k1:=HKBY.out.cell (o:=1) rfl;have k2:=HKBY.out.cell (o:=2) rfl;have f2:=HKBY.out.frozen 2;have n1:(0:Int)<=(c.kids.length:Int):=by omega
     have n2:(c.kids.length:Int)<=(c.kids.length:Int)+8:=by omega
     have HKL:Hid (mL Wy (Wo.heap.size+1) c.kids):=⟨cs2,HBK.out,hszk,HKC.out,HSP.out⟩
     go_upto_region 14 with fail
     obtain⟨Wk,hWk⟩:∃Wk,Wy.setCell ⟨Wo.heap.size,2,none⟩ (Value.slice (some ⟨Wo.heap.size+1,0,none⟩) c.kids.length (c.kids.length+8))=Wk:=⟨_,rfl⟩;have kk:aD Wk Wo.heap.size 56 #[.int .i64 c.A,.int .i64 c.B,.slice (some ⟨Wo.heap.size+1,0,none⟩) c.kids.length (c.kids.length+8)]:=by rw[<-hWk];exact HKBY.out.setAt 2 _
     have hoY:Below Wo.heap.size Wo Wy:=(hbo2.trans (hk3.out.below (B:=Wo.heap.size) (by omega) (fun k e=>by omega))).trans (HKY.out.below (B:=Wo.heap.size) (by omega) (fun k e=>by omega));have hoK:Below Wo.heap.size Wo Wk:=by rw[<-hWk];exact hoY.setCell (p:=⟨Wo.heap.size,2,none⟩) (a_ _) _
     have klk:mL Wk (Wo.heap.size+1) c.kids:=by
      have kks:aB (·= Wo.heap.size) Wy (Wy.setCell ⟨Wo.heap.size,2,none⟩ (Value.slice (some ⟨Wo.heap.size+1,0,none⟩) c.kids.length (c.kids.length+8))):=(aB.refl _ _).setCell (.inl (by rfl)) _;rw[<-hWk];exact HKL.out.kept kks (fun e=>by omega)
     have HKLK:Hid (mL Wk (Wo.heap.size+1) c.kids):=klk;rw[hWk];clear hWk klk k0 k1 k2 f2;have g0:=kk.cell (o:=0) rfl;have g1:=kk.cell (o:=1) rfl;have g2:=kk.cell (o:=2) rfl;have bl:=HBL.out.below hoK (by omega);have HBLK:Hid (aD Wk (w.heap.size+3) 56 cs):=bl;obtain⟨v0,hv0⟩:=dN (cs:=cs) (i:=m*3) (by omega);obtain⟨v1,hv1⟩:=dN (cs:=cs) (i:=m*3+1) (by omega);obtain⟨v2,hv2⟩:=dN (cs:=cs) (i:=m*3+2) (by omega);have y0:=bl.cell hv0;have y1:=bl.cell hv1;have y2:=bl.cell hv2;have z0:=bl.frozen (m*3);have z1:=bl.frozen (m*3+1);have z2:=bl.frozen (m*3+2);have m2:(m:Int) < (ks.length:Int)+8:=by omega
     have hkl:=kk.lt;clear kk bl
     go_wp2_with fail
     go_roundw
     case rel=>
      obtain⟨t1,t2,t3,t4,t5⟩:=uV cs m (.int .i64 c.A) (.int .i64 c.B) (.slice (some ⟨Wo.heap.size+1,0,none⟩) c.kids.length (c.kids.length+8)) (by omega);have hkK:aB (·= w.heap.size+3) w1 Wk:=HKW.out.later hoK hszo;have hkZ:aB (·= w.heap.size+3) Wo Wk:=aB.of_below hoK (fun k hk e=>absurd hk (by omega));have hset:∀{A:World},aB (·= w.heap.size+3) A Wk->aB (·= w.heap.size+3) A (((Wk.setCell ⟨w.heap.size+3,m*3,none⟩ (.int .i64 c.A)).setCell ⟨w.heap.size+3,m*3+1,none⟩ (.int .i64 c.B)).setCell ⟨w.heap.size+3,m*3+2,none⟩ (.slice (some ⟨Wo.heap.size+1,0,none⟩) c.kids.length (c.kids.length+8))):=fun h=>((h.setCell (.inl rfl) _).setCell (.inl rfl) _).setCell (.inl rfl) _
      refine⟨m+1,fun i=>if i=m then Wo.heap.size+1 else K i,_,hlt,by go_num,((HBLK.out.setAt (m*3) _).setAt (m*3+1) _).setAt (m*3+2) _,by rw[t1];exact hcsz,⟨fun j c' hj hc'=> ?_,fun j j' hjj hj' hj2=> ?_⟩,hset hkK⟩
      ·rcases Nat.lt_or_ge j m with h|h
       ·obtain⟨⟨h1,h2,h3⟩,h4,h5,h6⟩:=HLENT.out.1 j c' h hc'
        have hjm:j≠m:=by omega
        dsimp only;rw[if_neg hjm,(t5 j hjm).1,(t5 j hjm).2.1,(t5 j hjm).2.2];refine⟨⟨h1,h2,h3⟩,h4.kept (hset hkZ) (fun e=>by omega),h5,?_⟩;exact Nat.lt_of_lt_of_le h6 (hset hkZ).size
       ·obtain rfl:j=m:=by omega
        rw[hcc]at hc';cases hc';dsimp only;rw[if_pos rfl];refine⟨⟨t2,t3,t4⟩,HKLK.out.kept (hset (aB.refl _ _)) (fun e=>by omega),by omega,?_⟩;have:=(hset (aB.refl _ Wk)).size;have:=HKLK.out;obtain⟨_,hq,_⟩:=this;have:=hq.lt;omega
      ·have hjm:j≠m:=by omega
       dsimp only;rw[if_neg hjm];rcases Nat.lt_or_ge j' m with h|h
       ·rw[if_neg (by omega)]
        exact HLENT.out.2 j j' hjj h hj2
       ·obtain rfl:j'=m:=by omega
        rw[if_pos rfl];obtain⟨cj,hcj⟩:∃cj,ks[j]?= some cj:=⟨_,b_ (by omega)⟩;obtain⟨_,_,_,h6⟩:=HLENT.out.1 j cj (by omega) hcj;omega
     case measure=>simp[intOf];omega
  ·obtain rfl:m=ks.length:=by omega
   go_wp2_with fail
   go_loopw [9] (fun jv wy=>∃(q:Nat) (cs2:Array Value),ks.length<=q/\q<=ks.length+8/\jv= .int .i64 q/\aD wy (w.heap.size+3) 56 cs2/\cs2.size=(ks.length+8)*3/\oW wy (w.heap.size+3) K ks ks.length cs2/\(∀j,ks.length<=j->j < q->cs2[j*3]?= some (.int .i64 (-78))/\cs2[j*3+1]?= some (.int .i64 0)/\cs2[j*3+2]?= some (.slice none 0 0))/\aB (·= w.heap.size+3) w1 wy) (fun jv _=>ks.length+8 - (intOf jv).toNat)
   case atStart=>exact⟨ks.length,cs,a_ _,by omega,rfl,HBL.out,hcsz,HLENT.out,fun j h1 h2=>absurd h2 (by omega),HKW.out⟩
   case round=>
    obtain⟨q,cs2,hq1,hq2,rfl,hbk,hszk,hkl,hsp,hkY⟩:=hrel
    rename World=>Wy
    have HBK:Hid (aD Wy (w.heap.size+3) 56 cs2):=hbk;have HKLT:Hid (oW Wy (w.heap.size+3) K ks ks.length cs2):=hkl;have HSP:Hid (∀j,ks.length<=j->j < q->cs2[j*3]?= some (.int .i64 (-78))/\cs2[j*3+1]?= some (.int .i64 0)/\cs2[j*3+2]?= some (.slice none 0 0)):=hsp;have HKY:Hid (aB (·= w.heap.size+3) w1 Wy):=hkY;have hsY:=hkY.size;have bPy:=bP1.kept hkY (fun e=>by omega);have bRy:=bR1.kept hkY (fun e=>by omega);have bXy:=bX1.kept hkY (fun e=>by omega);clear hbk hkl hsp hkY p0;by_cases hql:q < ks.length+8
    ·obtain⟨v0,hv0⟩:=dN (cs:=cs2) (i:=q*3) (by omega)
     obtain⟨v1,hv1⟩:=dN (cs:=cs2) (i:=q*3+1) (by omega);obtain⟨v2,hv2⟩:=dN (cs:=cs2) (i:=q*3+2) (by omega);have y0:=HBK.out.cell hv0;have y1:=HBK.out.cell hv1;have y2:=HBK.out.cell hv2;have z0:=HBK.out.frozen (q*3);have z1:=HBK.out.frozen (q*3+1);have z2:=HBK.out.frozen (q*3+2);have j1:(0:Int)<=(q:Int):=by omega
     have j2:(q:Int) < (ks.length:Int)+8:=by omega
     clear bPy bRy bXy
     go_wp2_with fail
     go_roundw
     case rel=>
      obtain⟨t1,t2,t3,t4,t5⟩:=uV cs2 q (.int .i64 (-78)) (.int .i64 0) (.slice none 0 0) (by omega);have hset:∀{A:World},aB (·= w.heap.size+3) A Wy->aB (·= w.heap.size+3) A (((Wy.setCell ⟨w.heap.size+3,q*3,none⟩ (.int .i64 (-78))).setCell ⟨w.heap.size+3,q*3+1,none⟩ (.int .i64 0)).setCell ⟨w.heap.size+3,q*3+2,none⟩ (.slice none 0 0)):=fun h=>((h.setCell (.inl rfl) _).setCell (.inl rfl) _).setCell (.inl rfl) _
      refine⟨q+1,_,by omega,by omega,by go_num,((HBK.out.setAt (q*3) _).setAt (q*3+1) _).setAt (q*3+2) _,by rw[t1];exact hszk,⟨fun j c' hj hc'=> ?_,HKLT.out.2⟩,fun j h1 h2=> ?_,hset HKY.out⟩
      ·obtain⟨⟨h1,h2,h3⟩,h4,h5,h6⟩:=HKLT.out.1 j c' hj hc'
       have hjm:j≠q:=by omega
       rw[(t5 j hjm).1,(t5 j hjm).2.1,(t5 j hjm).2.2];exact⟨⟨h1,h2,h3⟩,h4.kept (hset (aB.refl _ _)) (fun e=>by omega),h5,Nat.lt_of_lt_of_le h6 (hset (aB.refl _ Wy)).size⟩
      ·rcases Nat.lt_or_ge j q with h|h
       ·have hjm:j≠q:=by omega
        rw[(t5 j hjm).1,(t5 j hjm).2.1,(t5 j hjm).2.2];exact HSP.out j h1 h
       ·obtain rfl:j=q:=by omega
        exact⟨t2,t3,t4⟩
     case measure=>simp[intOf];omega
    ·obtain rfl:q=ks.length+8:=by omega
     have q0:=bPy.cell (o:=0) rfl;have x0:=bXy.cell (o:=0) rfl;have x1:=bXy.cell (o:=1) rfl;have x2:=bXy.cell (o:=2) rfl;have fx:=bXy.frozen 0;have y0:=bRy.cell (o:=0) rfl;have y1:=bRy.cell (o:=1) rfl;have y2:=bRy.cell (o:=2) rfl;have fy0:=bRy.frozen 0;have fy1:=bRy.frozen 1;have fy2:=bRy.frozen 2;have n1:(0:Int)<=(ks.length:Int):=by omega
     have n2:(ks.length:Int)<=(ks.length:Int)+8:=by omega
     go_wp2_with fail
     obtain⟨Wx,hWx⟩:∃Wx,Wy.setCell ⟨w.heap.size+1+1,0,none⟩ (Value.slice (some ⟨w.heap.size+3,0,none⟩) ks.length (ks.length+8))=Wx:=⟨_,rfl⟩;have kx:aB (·= w.heap.size+1+1) Wy Wx:=by rw[<-hWx];exact(aB.refl _ _).setCell (.inl (by rfl)) _
     have bRx:=bRy.kept kx (fun e=>by omega);rw[hWx];have hT:aD (((Wx.setCell ⟨w.heap.size+1,0,none⟩ (Value.slice (some ⟨w.heap.size+3,0,none⟩) ks.length (ks.length+8))).setCell ⟨w.heap.size+1,1,none⟩ (.int .i64 kind)).setCell ⟨w.heap.size+1,2,none⟩ (.int .i64 arg)) (w.heap.size+1) 41 #[(Value.slice (some ⟨w.heap.size+3,0,none⟩) ks.length (ks.length+8)),.int .i64 kind,.int .i64 arg]:=
      ((bRx.setAt 0 _).setAt 1 _).setAt 2 _
     have kT:aB (·= w.heap.size+1) Wx (((Wx.setCell ⟨w.heap.size+1,0,none⟩ (Value.slice (some ⟨w.heap.size+3,0,none⟩) ks.length (ks.length+8))).setCell ⟨w.heap.size+1,1,none⟩ (.int .i64 kind)).setCell ⟨w.heap.size+1,2,none⟩ (.int .i64 arg)):=
      (((aB.refl _ _).setCell (.inl (by rfl)) _).setCell (.inl (by rfl)) _).setCell (.inl (by rfl)) _
     have e0:=hT.cell (o:=0) rfl;have e1:=hT.cell (o:=1) rfl;have e2:=hT.cell (o:=2) rfl;have kAll:aB (fun b=>b=w.heap.size+1+1\/b=w.heap.size+1) Wy (((Wx.setCell ⟨w.heap.size+1,0,none⟩ (Value.slice (some ⟨w.heap.size+3,0,none⟩) ks.length (ks.length+8))).setCell ⟨w.heap.size+1,1,none⟩ (.int .i64 kind)).setCell ⟨w.heap.size+1,2,none⟩ (.int .i64 arg)):=(kx.mono (fun _ _ h=> .inl h)).trans (kT.mono (fun _ _ h=> .inr h));have hlt3:=HBK.out.lt;refine bodyPost_ret (v:= .agg #[(Value.slice (some ⟨w.heap.size+3,0,none⟩) ks.length (ks.length+8)),.int .i64 kind,.int .i64 arg]) (by simp[results,results61,go_sem,e0,e1,e2]) rfl ⟨w.heap.size+3,K,rfl,⟨cs2,HBK.out.kept kAll (by omega),hszk,⟨fun j c' hj hc'=> ?_,HKLT.out.2⟩,HSP.out⟩,by omega,?_,?_⟩
     ·obtain⟨h1,h4,h5,h6⟩:=HKLT.out.1 j c' hj hc'
      exact⟨h1,h4.kept kAll (by omega),h5,Nat.lt_of_lt_of_le h6 kAll.size⟩
     ·exact Nat.lt_of_lt_of_le hlt3 kAll.size
     ·exact(hbw1.trans (HKY.out.below (B:=w.heap.size) (by omega) (fun k e=>by omega))).trans (kAll.below (B:=w.heap.size) (by omega) (fun k e=>by omega))
theorem iX{W:World}{base base' e size n:Nat}{v:Value}{xs:List Value}(h:W.ownsRow base e size v n xs)(hb:base'<=base):W.ownsRow base' e size v n xs:=
 aP h (aB.refl (fun _=>False) _) (fun _ _ h=>h) hb
theorem nL{P:Program}{w:World}{ops:Array Oper}{rest:List Oper}{o:Oper}{a:Act}{Q:Exit->Act->World->Prop}(hgd:o.guard=none)(s x:Operand)(t:TypeId)
  (ho:o.op= .call {callee:= .builtin .append,args:=#[s,x],argTypes:=#[t,t]})
  (base:Nat) (e:TypeId) (i:TypeInfo) (z:Value) (size bytes:Nat) (ht:P.underlying t=some (.slice e)) (hi:P.info? e=some i) (hz:i.zero=some z)
  (hsize:i.size=size) (hby:i.bytes=bytes) (hzs:z.cells.size=size) (hsz:0 < size)
  (v:Value) (n:Nat) (xs:List Value) (hs:a.eval s=v) (hown:w.ownsRow base e size v n xs)
  (ad:Addr) (m c:Nat) (news:List Value) (hx:a.eval x= .slice (some ad) m c) (hl:news.length=m*size) (hnews:∀j u,news[j]?= some u->w.cell? (ad.add j)=some u) (h1:∀u∈news,u.oneCell'=true)
  (hm:0 < m) (h63:n+m<=maxLen) (hbytes:(n+m)*bytes<=140737488355328) (hbase:base<=w.heap.size)
  (h:∀g cap w',w'.ownsRow base e size (.slice (some ⟨g,0,none⟩) (n+m) cap) (n+m) (xs++news)->w.grownBy w' v.ownBlock->(v.ownBlock=some g\/w.heap.size<=g)->
   Hid (∀B cs,v.ownBlock=some B->aD w B e cs->∃cs',aD w' B e cs'/\∀j,j < n*size->cs'[j]?= cs[j]?)->wpList P ops Q rest (a.put o.dst (.slice (some ⟨g,0,none⟩) (n+m) cap)) w'):wpList P ops Q (o :: rest) a w:=by
 obtain⟨hxl,hv⟩:=hown;rcases hv with⟨rfl,rfl⟩|⟨g,cap,cur,rfl,hbg,hcur,hnc,hcm,hcs,htk⟩
 ·obtain rfl:xs=[]:=List.eq_nil_of_length_eq_zero (by simpa using hxl)
  refine wpList_append_grows w hgd s x t ho e i z size bytes ht hi hz hsize hby hzs hsz none 0 0 [] hs (fun _=>⟨rfl,rfl⟩) (by simp) (fun _ h=>by cases h) ad m c news hx hl hnews h1 (by omega) h63 hbytes ?_;intro v' w' hown' hgrow;obtain⟨g,cap,rfl,hg1,hg2⟩:=World.ownsRow.form hown' (by omega);exact h g cap w' (iX hown' hbase) hgrow (.inr hg1) (fun B cs e=>by cases e)
 ·have hlt:g < w.heap.size:=(h_.1 hcur).1
  by_cases hr:n+m<=cap
  ·refine wpList_append_fits w hgd s x t ho base e i size ht hi hsize g n cap xs hs ⟨hxl,.inr ⟨g,cap,cur,rfl,hbg,hcur,hnc,hcm,hcs,htk⟩⟩ ad m c news hx hl hnews h1 hr ?_
   intro w' hown' hgrow;refine h g cap w' hown' hgrow (.inl rfl) ?_;obtain⟨_,hv'⟩:=hown';rcases hv' with⟨h0,_⟩|⟨g',cap',cur',h0,_,hcur',_,_,hcs',htk'⟩
   ·cases h0
   ·cases h0
    intro B cs hB hcsB;obtain rfl:g=B:=by simpa[Value.ownBlock]using hB
    obtain rfl:cur=cs:=by
     have:=hcur.symm.trans hcsB;simpa using this
    refine⟨cur',hcur',fun j hj=> ?_⟩;have e1:cur'[j]?= (xs++news)[j]?:=by
     rw[<-htk',List.getElem?_take,if_pos (by rw[Nat.add_mul];omega)];simp
    have e2:cur[j]?= xs[j]?:=by
     rw[<-htk,List.getElem?_take,if_pos hj];simp
    rw[e1,e2,List.getElem?_append_left (by omega)]
  ·refine wpList_append_grows w hgd s x t ho e i z size bytes ht hi hz hsize hby hzs hsz (some ⟨g,0,none⟩) n cap xs hs (fun e=>by cases e) hxl (fun b hb j u hj=> ?_) ad m c news hx hl hnews h1 (by omega) h63 hbytes ?_
   ·cases hb
    exact World.ownsRow.cells (base:=base) (e:=e) (size:=size) (n:=n) ⟨hxl,.inr ⟨g,cap,cur,rfl,hbg,hcur,hnc,hcm,hcs,htk⟩⟩ (g:=g) rfl j u hj
   ·intro v' w' hown' hgrow
    obtain⟨g',cap',rfl,hg1,hg2⟩:=World.ownsRow.form hown' (by omega);refine h g' cap' w' (iX hown' hbase) ⟨hgrow.os,hgrow.tape,hgrow.output,hgrow.size,fun k hk _=>hgrow.block k hk (by simp)⟩ (.inr hg1) (fun B cs hB hcsB=>⟨cs,(hgrow.block B (aD.lt hcsB) (by simp)).trans hcsB,fun _ _=>rfl⟩)
theorem uL:(prog.info? 143).map (fun i=>(i.zero,i.size,i.bytes))=some (some (.agg #[.int .i64 0,.slice none 0 0,.slice none 0 0,.slice none 0 0]),4,80):=by kernel_rfl
theorem bG{W:World}{base e size n:Nat}{v:Value}{xs:List Value}(h:W.ownsRow base e size v n xs):∃a cap,v= .slice a n cap:=by
 rcases h.2 with⟨rfl,rfl⟩|⟨g,cap,cur,rfl,_⟩
 ·exact⟨_,_,rfl⟩
 ·exact⟨_,_,rfl⟩
end Go.Proofs.YtfanaanofjhlkaaGreatDoor
