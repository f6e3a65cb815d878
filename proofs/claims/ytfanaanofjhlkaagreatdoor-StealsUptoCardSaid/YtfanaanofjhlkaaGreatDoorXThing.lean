import Derived.Test.YtfanaanofjhlkaaGreatDoorXCome
import Derived.Test.YtfanaanofjhlkaaGreatDoorComeFine
import Derived.Test.YtfanaanofjhlkaaGreatDoorXKnown
import Derived.Test.YtfanaanofjhlkaaGreatDoorXMsgs
set_option maxHeartbeats 16000000
set_option maxRecDepth 100000
namespace Go.Proofs.YtfanaanofjhlkaaGreatDoor
open Go Go.RowKit Tryz
theorem xin{part:Nat->Nat}{i j:Nat}{w:World}{v:Value}{links:List (List aO)}{ls:List aO}{l:aO}(h:lE part j w v links)(hi:links[i]?= some ls)(hj:ls[j]?= some l)(hij:i≠j):∃(qs:List (Option Nat)) (q g c:Nat),cO (fun b=>part b=8) 207 1 jN w v qs/\qs.length=links.length/\(∀i q ls l,qs[i]?= some q->links[i]?= some ls->ls[j]?= some l->lN part j i w l q)/\qs[i]?= some (some q)/\iQ (fun b=>part b=200+10*j+i) w q l/\v= .slice (some ⟨g,0,none⟩) qs.length c/\w.cell? ⟨g,i,none⟩=some (.pointer (some ⟨q,0,none⟩))/\g < w.heap.size:=by
 obtain⟨qs,h1,h2,h3⟩:=h;have hil:=(c_.1 hi).1;obtain⟨oq,hoq⟩:∃q,qs[i]?= some q:=⟨_,b_ (by omega)⟩;have he:=h3 i oq ls l hoq hi hj;cases oq with
 |none=>exact absurd he hij
 |some q=>
  obtain⟨g,c,rfl,-,hgl⟩:=World.ownsRow.form h1.1 (by omega);refine⟨qs,q,g,c,h1,h2,h3,hoq,he.2,rfl,?_,hgl⟩;have:=h1.1.cells (g:=g) rfl (i*1+0) _ (dZ (sz:=1) (enc:=jN) (fun _=>rfl) qs i (some q) 0 _ hoq rfl);rw[dP]at this;simpa using this
theorem aQ.rein0{part:Nat->Nat}{W W':World}{B M:Nat}{s:aE}{kv wv yv:Value}{xs:List XW}{i j q:Nat}{x:XW}{ls:List aO}{l l':aO}{qs:List (Option Nat)}(h:aQ part W B s kv wv yv M xs)(hi:xs[i]?= some x)(hlj:s.links[j]?= some ls)(hli:ls[i]?= some l)(hij:j≠i)(hqs:cO (fun b=>part b=8) 207 1 jN W x.inv qs)(hql:qs.length=s.links.length)(hqe:∀j q ls l,qs[j]?= some q->s.links[j]?= some ls->ls[i]?= some l->lN part i j W l q)(hq:qs[j]?= some (some q))(hlk:l'.all=l.all/\l'.known=l.known)(k:aB (fun g=>part g=200+10*i+j) W W')
  (hx:iQ (fun b=>part b=200+10*i+j/\b < W.heap.size) W' q l'):aQ (ext W part 0) W' B {s with links:=s.links.set j (ls.set i l')} kv wv yv M xs/\cI part (ext W part 0) W W':=by
 have hpB:=h.pB;have h5:=h.five;have hjl:=(c_.1 hlj).1;have hll:=h.lrow ls (d_ hlj);have hil:=(c_.1 hli).1;have R:=h.rest (part':=ext W part 0) (200+10*i+j) k (fun g hg=>aY hg) (fun g _ hg=> .inr hg);have hllen:=h.llen;refine⟨⟨h.box.kept k (by omega),(aY h.box.lt).trans h.pB,R.kinds (by omega),R.wrow (by omega),h.wlen,fun i' x' y' hx' hy'=>R.wat i' x' y' (by have h':i' < s.W.length:=(c_.1 hy').1;omega) hx' hy',by simpa using h.llen,fun ls' hls'=> ?_,h5,fun i' x' ls' hx' hl'=> ?_,fun i' x' hx'=> ?_,R.yrow (by omega),R.vals (by omega),fun i' x' y' hx' hy'=>R.tat i' x' y' (by have h':i' < s.W.length:=(c_.1 hy').1;omega) hx' hy'⟩,cI.of _ k (fun g hl hg=>by omega)⟩
 ·rcases List.mem_or_eq_of_mem_set hls' with h'|rfl
  ·exact h.lrow ls' h'
  ·simpa using hll
 ·have hl1:(s.links.set j (ls.set i l'))[i']?= some ls':=hl'
  have hi5:i' < s.W.length:=by have:=(c_.1 hl').1;simp at this;omega
  by_cases e:i'=j
  ·subst e
   rw[i8 hjl]at hl1;obtain rfl:=Option.some.inj hl1;obtain⟨ps,p1,p2,p3⟩:=R.lat i' x' ls (by omega) (.inr (by omega)) hx' hlj;refine⟨ps,p1,by simpa using p2,fun b p z hp hz=> ?_⟩;by_cases e:b=i
   ·subst e
    rw[i8 hil]at hz;obtain rfl:=Option.some.inj hz;have:=p3 b p l hp hli;cases p with
    |none=>exact⟨this.1,by rw[hlk.1];exact this.2⟩
    |some p=>
     refine⟨this.1,?_⟩;obtain⟨c,cap,o1,o2,o3,o4,o5⟩:=this.2;have hleft:l'.left=l.left:=by unfold aO.left;rw[hlk.1,hlk.2]
     exact⟨c,cap,by rw[hlk.1];exact o1,o2,by rw[hleft];exact o3,o4,by rw[hlk.1,hleft];exact o5⟩
   ·rw[List.getElem?_set_ne (fun e'=>e e'.symm)]at hz
    exact p3 b p z hp hz
  ·rw[List.getElem?_set_ne (fun e'=>e e'.symm)]at hl1
   have:=h.lrow ls' (d_ hl1);exact R.lat i' x' ls' (by omega) (.inr (by omega)) hx' hl1
 ·by_cases e:i'=i
  ·subst e
   rw[hi]at hx';obtain rfl:=Option.some.inj hx';refine⟨qs,hqs.kept k (fun g hg e=>⟨by omega,(aY hg).trans e⟩),by simpa using hql,fun b p row z hp hr hz=> ?_⟩;have hb5:b < s.links.length:=by have:=(c_.1 hp).1;omega
   by_cases e:b=j
   ·subst e
    rw[hq]at hp;obtain rfl:=Option.some.inj hp;have hr1:(s.links.set b (ls.set i' l'))[b]?= some row:=hr;rw[i8 hjl]at hr1;obtain rfl:=Option.some.inj hr1;rw[i8 hil]at hz;obtain rfl:=Option.some.inj hz;exact⟨hij,hx.kept (aB.refl (fun _=>False) W') (fun b _ hb=>⟨fun h=>h,(aY hb.2).trans hb.1⟩)⟩
   ·have hr1:(s.links.set j (ls.set i' l'))[b]?= some row:=hr
    rw[List.getElem?_set_ne (fun e'=>e e'.symm)]at hr1;exact(hqe b p row z hp hr1 hz).kept k (fun g hg e=>⟨by omega,(aY hg).trans e⟩)
  ·have hi5:i' < s.W.length:=by have:=(c_.1 hx').1;have:=h.wlen;omega
   have hI:i < s.W.length:=by omega
   exact(R.iat i' x' (by omega) (by omega) hx').relink hlj hli (fun e'=>absurd e'.symm e)
def jK(l:aO)(no:Int):aO:=if l.known < no then{l with known:=no}else l
theorem yL{l:aO}{no:Int}(hk:0<=l.known/\l.known<=l.all.length):(jK l no).left=l.left.drop (no - ((l.all.length:Int) - (l.left.length:Int))).toNat:=by
 have hl:l.left.length=l.all.length - l.known.toNat:=by unfold aO.left;rw[List.length_drop]
 have e:(l.all.length:Int) - (l.left.length:Int)=l.known:=by omega
 rw[e];unfold jK aO.left;by_cases h:l.known < no
 ·rw[if_pos h,List.drop_drop]
  congr 1
  dsimp only;omega
 ·rw[if_neg h]
  have e0:(no - l.known).toNat=0:=by omega
  rw[e0];rfl
theorem aJz(l:aO)(no:Int):mO l (jK l no):=by
 unfold jK;split
 ·exact⟨rfl,rfl,[],by simp⟩
 ·exact mO.refl l
theorem yX(l:aO)(no:Int):(jK l no).all=l.all:=by
 unfold jK;split<;>rfl
theorem aNc(i j:Nat)(no:Int){part:Nat->Nat}{w:World}{B M q:Nat}{s:aE}{kv wv yv:Value}{xs:List XW}{x:XW}{ls:List aO}{l:aO}{qs:List (Option Nat)}(h:aQ part w B s kv wv yv M xs)(hx:xs[j]?= some x)(hls:s.links[j]?= some ls)(hl:ls[i]?= some l)(hij:i≠j)(hqr:cO (fun b=>part b=9) 206 1 jN w x.outv qs)(hql:qs.length=ls.length)(hqe:∀i q l,qs[i]?= some q->ls[i]?= some l->nI part j i w l q)(hq:qs[i]?= some (some q))(hout:jP (fun b=>part b=100+10*j+i) w q l)(hk:0<=l.known/\l.known<=l.all.length)(hn:l.all.length<=100000000) :
  Calls prog 185 #[.pointer (some ⟨q,0,none⟩),.int .i64 no] w fun e w'=>∃v,e= .returned v/\∃part',aQ part' w' B {s with links:=s.links.set j (ls.set i (jK l no))} kv wv yv M xs/\bD part part' w w':=by
 obtain⟨c,cap,o1,o2,o3,o4,o5,o6,o7⟩:=hout;have hll:l.left.length<=l.all.length:=by unfold aO.left;rw[List.length_drop];omega
 have hqc:q≠c:=fun e=>by
  obtain⟨a,b,hch⟩:=o3;subst e;have h1:w.heap[q]?= _:=o1;rw[hch]at h1;cases h1
 refine(aGp q c cap l.all.length no l.left w o1 o3 hn hll).mono ?_;rintro e w' ⟨v,rfl,h1,h2⟩;rw[<-yL hk]at h1;have hlen:(jK l no).left.length<=l.left.length:=by rw[yL hk,List.length_drop];omega
 have hq':=o1.kept h2 hqc;have hql2:=o1.lt;have hcl:=o3.lt;obtain⟨h3,hm3⟩:=h.relink (l':=jK l no) hx hls hij hqr hql hqe hq hl (aJz l no) (h2.mono (fun b _ e=>by subst e;exact o4)) ⟨c,cap,by rw[yX];exact hq',.inl ⟨o2,hql2⟩,h1,.inl ⟨o4,hcl⟩,o5,by rw[yX];exact o6,by omega⟩;exact⟨v,rfl,_,h3,hm3⟩
structure pO(N:Nat)(s:aE)(i j:Nat)(m:aI):Prop where
 fine:aN N s
 le:N+5<=90000000
 calm:bJ s
 src:m.src=i
 dst:m.dst=j
 hi:i < s.W.length
 hj:j < s.W.length
 ne:i≠j
theorem aHz{s:aE}{a b:Nat}{ls:List aO}{l:aO}(h1:s.links[a]?= some ls)(h2:ls[b]?= some l):aF s a b=l:=by
 unfold aF;rw[h1,Option.getD_some,h2,Option.getD_some]
theorem pO.link{N:Nat}{s:aE}{i j:Nat}{m:aI}(h:pO N s i j m){a b:Nat}(ha:a < s.W.length)(hb:b < s.W.length):∃ls l,s.links[a]?= some ls/\ls[b]?= some l/\aF s a b=l:=by
 obtain⟨ls,hls⟩:∃ls,s.links[a]?= some ls:=⟨_,b_ (by rw[h.fine.llen];exact ha)⟩;obtain⟨l,hl⟩:∃l,ls[b]?= some l:=⟨_,b_ (by rw[h.fine.lrow ls (d_ hls)];exact hb)⟩;exact⟨ls,l,hls,hl,aHz hls hl⟩
theorem aQ.wcell{part:Nat->Nat}{W:World}{B M n c gw j:Nat}{s:aE}{kv yv:Value}{xs:List XW}{x:XW}(h:aQ part W B s kv (.slice (some ⟨gw,0,none⟩) n c) yv M xs)(hx:xs[j]?= some x)(o:Nat)(u:Value)(hu:(dB x)[o]?= some u):W.cell? ⟨gw,j*8+o,none⟩=some u:=by
 have hl:=h.xlen;have h1:=h.wrow.1.cells (g:=gw) rfl (j*8+o) _ (dZ (sz:=8) (enc:=dB) (fun _=>rfl) xs j x o _ hx hu);rwa [dP]at h1
theorem aFr(m:aI)(i j:Nat){part:Nat->Nat}{w:World}{B M N:Nat}{s:aE}{kv wv yv:Value}{xs:List XW}(h:aQ part w B s kv wv yv M xs)(hA:pO N s i j m)(hk:m.kind=0) :
  Calls prog 157 #[.pointer (some ⟨B,0,none⟩),.agg (aG m)] w fun e w'=>∃v,e= .returned v/\(v= .tuple #[]/\∃part' yv' xs',aQ part' w' B (aZ s j i (jK (aF s j i) m.no)) kv wv yv' M xs'/\cI part part' w w'):=by
 have hjl:=hA.hj;have hxl:=h.wlen;obtain⟨x,hx⟩:∃x,xs[j]?= some x:=⟨_,b_ (by omega)⟩;obtain⟨gw,wc,hwf,-,hgw⟩:=World.ownsRow.form h.wrow.1 (by omega);subst hwf;obtain⟨ls,l,hls,hl,hlk⟩:=hA.link hA.hj hA.hi;have hlo:=hA.fine.links j i hA.hj hA.hi;rw[hlk]at hlo;have hle:=hA.le;have hall:=hlo.all;obtain⟨Z,hZ⟩:∃Z,w.alloc (Obj.cells (aG m) 124)=Z:=⟨_,rfl⟩;have gZ:Below w.heap.size w Z:=by rw[<-hZ];exact(e_ _ _).alloc (a_ _) _
 have bZ:aD Z w.heap.size 124 (aG m):=by rw[<-hZ];exact aD.new w _ _
 obtain⟨hxZ,hmZ⟩:=h.later gZ;have b3:Z.cell? ⟨B,4,none⟩=some (.slice (some ⟨gw,0,none⟩) xs.length wc):=hxZ.box.cell (o:=4) rfl;have d1:Z.cell? ⟨w.heap.size,1,none⟩=some (.int .i64 (j:Int)):=by rw[<-hA.dst];exact bZ.cell (o:=1) rfl
 have j1:(0:Int)<=(j:Int):=by omega
 have j2:(j:Int) < (xs.length:Int):=by omega
 have HXZ:=aC hxZ;have HMZ:=aC hmZ;have HBZ:=aC bZ;have HA:=aC hA;have HLO:=aC hlo;have HS:Hid (aZ s j i (jK (aF s j i) m.no)={s with links:=s.links.set j (ls.set i (jK l m.no))}):=by
  show _=_;rw[hlk];unfold aZ;rw[hls];rfl
 clear h gZ bZ hxZ hmZ hA hlo;go_enter func157,ntmps157
 go_upto_region 1 with fail
 try rw[hZ]
 clear hZ
 go_cut [4] (fun pv wx=>pv= .pointer (some ⟨gw,j*8,none⟩)/\Below Z.heap.size Z wx)
 case first=>
  go_quiet (fail)
  go_wp2_with fail
  go_meet
  case rel=>exact⟨rfl,by first|exact e_ _ _|exact(e_ _ _).drew|exact below_drewN (e_ _ _) _⟩
 case rest=>
  obtain⟨rfl,hbx⟩:=hcut
  rename World=>wx
  have bx:=HBZ.out.below hbx HBZ.out.lt;obtain⟨h1,hm1⟩:=HXZ.out.later hbx;obtain⟨qs,q,g,gc,hqr,hql,hqe,hq,hout,hvf,hcq,hgq⟩:=zQ (h1.lat j x ls hx hls) hl HA.out.ne;have a2:=h1.wcell hx 2 _ rfl;rw[hvf]at a2;have e0:wx.cell? ⟨w.heap.size,0,none⟩=some (.int .i64 (i:Int)):=by rw[<-HA.out.src];exact bx.cell (o:=0) rfl
  have e2:=bx.cell (o:=2) rfl;have e3:wx.cell? ⟨w.heap.size,3,none⟩=some (.int .i64 0):=by rw[<-hk];exact bx.cell (o:=3) rfl
  have hil:=HA.out.hi;have hll:=HA.out.fine.lrow ls (d_ hls);have i1:(0:Int)<=(i:Int):=by omega
  have i2:(i:Int) < (qs.length:Int):=by omega
  have HKN:Hid (∀U,Below wx.heap.size wx U->Calls prog 185 #[.pointer (some ⟨q,0,none⟩),.int .i64 m.no] U fun e w'=>∃v,e= .returned v/\∃part',aQ part' w' B (aZ s j i (jK (aF s j i) m.no)) kv (.slice (some ⟨gw,0,none⟩) xs.length wc) yv M xs/\bD part part' w w'):=fun U hU=>by
   obtain⟨h2,hm2⟩:=h1.later hU;have kU:aB (fun b=>wx.heap.size<=b) wx U:=aB.of_below hU (fun _ _ h=>h);refine(aNc i j m.no h2 hx hls hl HA.out.ne (hqr.kept kU (fun g hg e=>⟨by omega,(aY hg).trans e⟩)) hql (fun i' q' l' a b=>(hqe i' q' l' a b).kept kU (fun g hg e=>⟨by omega,(aY hg).trans e⟩)) hq (hout.kept kU (fun g hg e=>⟨by omega,(aY hg).trans e⟩)) HLO.out.known (by omega)).mono ?_;rintro e w' ⟨v,rfl,part',h3,hm3⟩;exact⟨v,rfl,part',by rw[HS.out];exact h3,((HMZ.out.trans hm1).trans hm2).trans hm3⟩
  clear hbx bx h1 hm1 hqr hqe hout hvf hk b3 d1
  go_upto_region 3 with fail
  go_still_tail 10,(by kernel_rfl)
  go_wp2_with (go_at_call 185;refine(HKN.out _ (by first|exact e_ _ _|exact(e_ _ _).drew)).mono ?_;rintro e w3 ⟨v3,rfl,part3,h3,hm3⟩;have H3:=aC h3;have HM3:=aC hm3;clear h3 hm3)
  refine bodyPost_ret (results_none rfl _ _ _) rfl ?_;exact⟨_,rfl,rfl,part3,yv,xs,H3.out,HM3.out.base⟩
def jO(s:aE)(i j:Nat)(m:aI):aE:=fQ ((aF s i j).all.length+1) (aZ s i j (bI (aF s i j) m.no)) i j
theorem aKc{N:Nat}{s:aE}{i j n:Nat}{m:aI}{ks:List aS}{ans:Prop}{N':Nat}(h:aN N s)(hN:N<=90000000)(hi:i < s.W.length)(hj:j < s.W.length)(hm:jQ ks ans N' i j n m)(ha:ans->s.answers≠ []):mC N s i j m:=
 ⟨h.shaped,h.small,hN,h.known,Nat.le_trans h.vals hN,fun x hx=>by have:=(h.works x hx).few;omega,hm.src,hm.dst,hm.ne,hi,hj,fun e=>ha (hm.told (.inr e)),fun a h'=>by have h1:=(h.ans a h').many;have h2:=(h.ans a h').sent;have h3:=(h.ans a h').came;omega,by have:=hm.nums;omega⟩
theorem aId(s:aE)(m:aI):(aX s m).mode=s.mode:=by
 unfold aX dA;dsimp only
 repeat' split
 all_goals first|rfl|exact vL _ _
theorem aJs(ms:List aI)(s:aE):(ms.foldl aX s).mode=s.mode:=by
 induction ms generalizing s with
 |nil=>rfl
 |cons m ms ih=>rw[List.foldl_cons,ih,aId]
theorem aLr(ms:List aI)(s:aE)(h:s.answers≠ []):(ms.foldl aX s).answers≠ []:=by
 induction ms generalizing s with
 |nil=>exact h
 |cons m ms ih=>rw[List.foldl_cons];exact ih _ (yI s m h)
theorem aKg{i j:Nat}{s:aE}{l':aO}{ms:List aI}{part:Nat->Nat}{W:World}{B M:Nat}{kv wv yv:Value}{xs:List XW}(h:aQ part W B (ms.foldl aX (aZ s i j l')) kv wv yv M xs)(hd:∀m∈ms,m.dst.toNat≠i)(hi:i < xs.length)(hj:j < xs.length):aF (ms.foldl aX (aZ s i j l')) i j=l':=by
 rw[aDr l' ms s hd]at h ⊢;have h1:=h.llen;have h2:=h.wlen;obtain⟨T,hT⟩:∃T,ms.foldl aX s=T:=⟨_,rfl⟩;rw[hT]at h h1 h2 ⊢;have e1:(aZ T i j l').links=T.links.set i ((T.links[i]?.getD []).set j l'):=rfl;have e2:(aZ T i j l').W=T.W:=rfl;rw[e1,List.length_set,e2]at h1;rw[e2]at h2;have hil:i < T.links.length:=by omega
 have hrow:=h.lrow ((T.links[i]?.getD []).set j l') (by rw[e1];exact d_ (i8 hil));rw[List.length_set,e2]at hrow;unfold aF;rw[e1,i8 hil,Option.getD_some,i8 (by omega),Option.getD_some]
theorem aCt(m:aI)(i j:Nat){part:Nat->Nat}{w:World}{B M N:Nat}{s:aE}{kv wv yv:Value}{xs:List XW}(h:aQ part w B s kv wv yv M xs)(hA:pO N s i j m)(hk:m.kind≠0)(hm:1<=m.no/\(aF s i j).all[(m.no - 1).toNat]?= some m) :
  Calls prog 157 #[.pointer (some ⟨B,0,none⟩),.agg (aG m)] w fun e w'=>∃v,e= .returned v/\(v= .tuple #[]/\∃part' yv' xs',aQ part' w' B (cB (jO s i j m) {aH with src:=(j:Int),dst:=(i:Int),kind:=0,no:=(aF (jO s i j m) i j).came}) kv wv yv' M xs'/\cI part part' w w'):=by
 have hjl:=hA.hj;have hil:=hA.hi;have hxl:=h.wlen;obtain⟨x,hx⟩:∃x,xs[j]?= some x:=⟨_,b_ (by omega)⟩;obtain⟨gw,wc,hwf,-,hgw⟩:=World.ownsRow.form h.wrow.1 (by omega);subst hwf;obtain⟨ls,l,hls,hl,hlk⟩:=hA.link hA.hi hA.hj;have hlo:=hA.fine.links i j hA.hi hA.hj;rw[hlk]at hlo hm;have hle:=hA.le;obtain⟨Z,hZ⟩:∃Z,w.alloc (Obj.cells (aG m) 124)=Z:=⟨_,rfl⟩;have gZ:Below w.heap.size w Z:=by rw[<-hZ];exact(e_ _ _).alloc (a_ _) _
 have bZ:aD Z w.heap.size 124 (aG m):=by rw[<-hZ];exact aD.new w _ _
 obtain⟨hxZ,hmZ⟩:=h.later gZ;have b3:Z.cell? ⟨B,4,none⟩=some (.slice (some ⟨gw,0,none⟩) xs.length wc):=hxZ.box.cell (o:=4) rfl;have d1:Z.cell? ⟨w.heap.size,1,none⟩=some (.int .i64 (j:Int)):=by rw[<-hA.dst];exact bZ.cell (o:=1) rfl
 have j1:(0:Int)<=(j:Int):=by omega
 have j2:(j:Int) < (xs.length:Int):=by omega
 have hmno:m.no<=(l.all.length:Int):=by have:=(c_.1 hm.2).1;omega
 have HXZ:=aC hxZ;have HMZ:=aC hmZ;have HBZ:=aC bZ;have HA:=aC hA;have HLO:=aC hlo;have HM:=aC hm;have HLK:Hid (aF s i j=l):=hlk;have HAR:Hid (∀n,nY (bI l m.no) n->Arrives N s i j m l n):=fun n hcm=>by
  have:=aMo hA.fine hA.le hA.hi hA.hj hA.ne (m:=m) (n:=n) (by rw[hlk];exact hmno) (by rw[hlk];exact hcm);rw[hlk]at this;exact this
 clear h gZ bZ hxZ hmZ hA hlo hm hlk;go_enter func157,ntmps157
 go_upto_region 1 with fail
 try rw[hZ]
 clear hZ
 go_cut [4] (fun pv wx=>pv= .pointer (some ⟨gw,j*8,none⟩)/\Below Z.heap.size Z wx)
 case first=>
  go_quiet (fail)
  go_wp2_with fail
  go_meet
  case rel=>exact⟨rfl,by first|exact e_ _ _|exact(e_ _ _).drew|exact below_drewN (e_ _ _) _⟩
 case rest=>
  obtain⟨rfl,hbx⟩:=hcut
  rename World=>wx
  have bx:=HBZ.out.below hbx HBZ.out.lt;obtain⟨h1,hm1⟩:=HXZ.out.later hbx;obtain⟨qs,q,g,gc,hqr,hql,hqe,hq,hin,hvf,hcq,hgq⟩:=xin (h1.iat j x hx) hls hl HA.out.ne;have a3:=h1.wcell hx 3 _ rfl;rw[hvf]at a3;have e0:wx.cell? ⟨w.heap.size,0,none⟩=some (.int .i64 (i:Int)):=by rw[<-HA.out.src];exact bx.cell (o:=0) rfl
  have e3:=bx.cell (o:=3) rfl;have hk0:(m.kind==0)=false:=by rw[g_];exact hk
  have hll:=HA.out.fine.llen;have i1:(0:Int)<=(i:Int):=by omega
  have i2:(i:Int) < (qs.length:Int):=by omega
  have HBX:=aC bx;have HX1:=aC h1;have HM1:=aC hm1;have HQR:=aC hqr;have HQE:=aC hqe;have HQ:Hid (qs[i]?= some (some q)):=hq;have HIN:=aC hin;have HQL:Hid (qs.length=s.links.length):=hql;clear hbx bx h1 hm1 hqr hqe hin hvf hk b3 d1 hq
  go_upto_region 4 with fail
  go_cut [5] (fun pv wy=>pv= .pointer (some ⟨q,0,none⟩)/\Below wx.heap.size wx wy)
  case first=>
   go_quiet (fail)
   go_wp2_with fail
   go_meet
   case rel=>exact⟨rfl,by first|exact e_ _ _|exact(e_ _ _).drew|exact below_drewN (e_ _ _) _⟩
  case rest=>
   obtain⟨rfl,hby⟩:=hcut
   rename World=>wy
   have byx:=HBX.out.below hby HBX.out.lt;obtain⟨h2,hm2⟩:=HX1.out.later hby;have hpz:ext wx (ext Z (ext w part 0) 0) 0 w.heap.size=0:=(aY HBX.out.lt).trans ((aY HBZ.out.lt).trans (gF (a_ _)));obtain⟨P2,hP2⟩:∃P2,ext wx (ext Z (ext w part 0) 0) 0=P2:=⟨_,rfl⟩;rw[hP2]at h2 hm2 hpz;have kY:aB (fun b=>wx.heap.size<=b) wx wy:=aB.of_below hby (fun _ _ h=>h);have hqr2:cO (fun b=>P2 b=8) 207 1 jN wy x.inv qs:=HQR.out.kept kY (fun g hg e=>⟨by omega,by rw[<-hP2];exact(aY hg).trans e⟩);have hqe2:∀i q ls l,qs[i]?= some q->s.links[i]?= some ls->ls[j]?= some l->lN P2 j i wy l q:=fun i' q' ls' l' a b c=>(HQE.out i' q' ls' l' a b c).kept kY (fun g hg e=>⟨by omega,by rw[<-hP2];exact(aY hg).trans e⟩)
   have hin2:iQ (fun b=>P2 b=200+10*j+i/\b < wy.heap.size) wy q l:=HIN.out.kept kY (fun g hg e=>⟨by omega,by rw[<-hP2];exact(aY hg).trans e,Nat.lt_of_lt_of_le hg hby.size⟩);have hqP:P2 q=200+10*j+i/\q < wy.heap.size:=by obtain⟨_,_,h9,_⟩:=hin2;exact h9
   have HX2:=aC h2;have HM2:Hid (bD part P2 w wy):=(HMZ.out.trans HM1.out).trans hm2;have HBY:=aC byx;have hlo:=HLO.out;have hca:=hlo.came;have hal:=hlo.all;have hkl:=hlo.klen;have HARR:Hid (Calls prog 187 #[.pointer (some ⟨q,0,none⟩),.agg (aG m)] wy fun e w'=>∃v,e= .returned v/\∃a n c,v= .slice a n c/\Arrives N s i j m l n/\w'.ownsRow wy.heap.size 124 15 (.slice a n c) n (((l.all.drop l.came.toNat).take n).flatMap aK)/\aQ (ext wy P2 0) w' B (aZ s i j ((bI l m.no).on n)) kv (.slice (some ⟨gw,0,none⟩) xs.length wc) yv M xs/\cI part (ext wy P2 0) w w'/\aD w' w.heap.size 124 (aG m)/\∃MM,aD w' q 164 #[.int .i64 ((bI l m.no).on n).came,.map (some MM)]):=by
    refine(aKo (fun b=>P2 b=200+10*j+i/\b < wy.heap.size) q l m wy hin2 (fun b hb=>hb.2) ⟨hca.1,by omega⟩ (by omega) (by omega) (fun n' m' h'=>(hlo.msgs n' m' h').no) HM.out).mono ?_;rintro e w' ⟨v,rfl,n,hcm,hn,hrow,hI,hkp⟩;obtain⟨a,c,hvf⟩:=bG hrow;have hlk9:((bI l m.no).on n).all=l.all/\((bI l m.no).on n).known=l.known:=⟨(rF l m.no).1,(rF l m.no).2.1⟩;obtain⟨h5,hm5⟩:=h2.rein0 (l':=(bI l m.no).on n) hx hls hl HA.out.ne hqr2 HQL.out hqe2 HQ.out hlk9 (hkp.mono (fun b _ e=>e.1)) hI;have hs9:aZ s i j ((bI l m.no).on n)={s with links:=s.links.set i (ls.set j ((bI l m.no).on n))}:=by
     unfold aZ;rw[hls];rfl
    obtain⟨MM,hbq,-,-,-⟩:=hI;refine⟨v,rfl,a,n,c,hvf,HAR.out n hcm,by rw[<-hvf];exact hrow,by rw[hs9];exact h5,HM2.out.base.trans hm5,byx.kept hkp (fun e=>by have:=e.1;omega),MM,hbq⟩
   clear hby byx h2 hm2 kY hqr2 hqe2 hin2 hlo;obtain⟨m0,m1,m2,m3,m4,m5,m6,m7,m8,m9,m10,m11,m12,m13,m14⟩:=eF HBY.out;have HP2:Hid (ext wx (ext Z (ext w part 0) 0) 0=P2):=hP2;clear hP2 a3 e0 e3 hcq;have HCO:Hid (∀(a:Option Addr) (n c:Nat) (w1:World),Arrives N s i j m l n->w1.ownsRow wy.heap.size 124 15 (.slice a n c) n (((l.all.drop l.came.toNat).take n).flatMap aK)->aQ (ext wy P2 0) w1 B (aZ s i j ((bI l m.no).on n)) kv (.slice (some ⟨gw,0,none⟩) xs.length wc) yv M xs->Calls prog 186 #[.pointer (some ⟨B,0,none⟩),.slice a n c] w1 fun e w'=>∃u,e= .returned u/\(u= .tuple #[]/\∃part' yv' xs',aQ part' w' B (jO s i j m) kv (.slice (some ⟨gw,0,none⟩) xs.length wc) yv' M xs'/\bD (ext wy P2 0) part' w1 w'/\aF (jO s i j m) i j=(bI l m.no).on n)):=fun a n c w1 hAr hrow hx1=>by
    obtain⟨ms,hms⟩:∃ms,(l.all.drop l.came.toNat).take n=ms:=⟨_,rfl⟩;have hlen:ms.length=n:=by rw[<-hms,List.length_take,List.length_drop];have:=hAr.many;omega
    have hmem:∀m'∈ms,∃k,l.all[k]?= some m':=fun m' h'=>by rw[<-hms]at h';exact List.getElem?_of_mem (List.mem_of_mem_drop (List.mem_of_mem_take h'))
    have hcalm:=HA.out.calm;have hlo:=HLO.out;have hth:jO s i j m=ms.foldl aX (aZ s i j ((bI l m.no).on n)):=by
     unfold jO;rw[HLK.out,hAr.fold,hms]
    rw[hms]at hrow;rw[<-hlen]at hrow ⊢;have hd:∀m'∈ms,m'.dst.toNat≠i:=fun m' h'=>by
     obtain⟨k,hk⟩:=hmem m' h';have:=(hlo.msgs k m' hk).dst;have:=HA.out.ne;omega
    refine(aMw (N:=N+5) i j ms a c hx1 (iX hrow (Nat.zero_le _)) (fun g e=>gF (hrow.lt g e).1) (by rw[hlen];have:=hAr.many;omega) (fun k m' hk=> ?_)).mono ?_
    ·obtain⟨k',hk'⟩:=hmem m' (d_ hk)
     have hkl:=(c_.1 hk).1;have hmo:=hlo.msgs k' m' hk';have hcl:jZ s.mode m':=by
      have:=kC.link hcalm.links i j;have e:(s.links[i]?.getD [])[j]?.getD cN=l:=HLK.out;rw[e]at this;exact this m' (d_ hk')
     have etk:ms.take k=(l.all.drop l.came.toNat).take k:=by rw[<-hms,List.take_take,Nat.min_eq_left (by omega)]
     have hE:=hAr.each k (by omega);rw[<-etk]at hE;have hF:=hE.1;have hWl:=hE.2;exact⟨aKc hF hle (by rw[hWl];exact HA.out.hi) (by rw[hWl];exact HA.out.hj) hmo (fun h'=>aLr _ _ h'),by rw[aJs];exact hcl,hmo.kind.1⟩
    ·rintro e w' ⟨u,rfl,rfl,part',yv',xs',h3,hm3⟩
     have hl3:xs'.length=xs.length:=h3.xlen;refine⟨_,rfl,rfl,part',yv',xs',by rw[hth];exact h3,hm3,?_⟩;rw[hth];have hi':i < xs'.length:=by have:=HA.out.hi;omega
     have hj':j < xs'.length:=by have:=HA.out.hj;omega
     rw[hlen];exact aKg h3 hd hi' hj'
   go_upto_region 6 with(first
    |(go_at_call 187;refine HARR.out.mono ?_;rintro e w1 ⟨v1,rfl,a1,n1,c1,rfl,hAr,hrow1,hx1,hmv1,hbm1,MM,hbq1⟩;have HAR1:=aC hAr;have HROW1:=aC hrow1;have HXX1:=aC hx1;have HMV1:=aC hmv1;have HBM1:=aC hbm1;have HBQ1:=aC hbq1;clear hAr hrow1 hx1 hmv1 hbm1 hbq1)
    |(go_at_call 186;refine(HCO.out a1 n1 c1 w1 HAR1.out HROW1.out HXX1.out).mono ?_;rintro e w2 ⟨v2,rfl,rfl,part2,yv2,xs2,hx2,hmv2,hlk2⟩;have HX3:=aC hx2;have HMV2:=aC hmv2;have HLK2:=aC hlk2;clear hx2 hmv2 hlk2))
   have hpm:ext wy P2 0 w.heap.size=0:=(aY HBY.out.lt).trans hpz;have hpq:ext wy P2 0 q=200+10*j+i:=(aY hqP.2).trans hqP.1;have hbm2:=HBM1.out.kept HMV2.out.kept (fun h=>h hpm);have hbq2:aD w2 q 164 #[.int .i64 ((bI l m.no).on n1).came,.map (some MM)]:=by
    have h9:=(HMV2.out.ends q HBQ1.out.lt (by omega)).2;have h8:w1.heap[q]?= _:=HBQ1.out;exact h9.trans h8
   rw[<-HLK2.out]at hbq2;obtain⟨cv,hcv⟩:∃cv,(aF (jO s i j m) i j).came=cv:=⟨_,rfl⟩;rw[hcv]at hbq2;have HCV:Hid ((aF (jO s i j m) i j).came=cv):=hcv;have HCM:Hid (∀U,(U=w2\/U=w2.drew)->Calls prog 188 #[.pointer (some ⟨q,0,none⟩)] U fun e w'=>∃v,e= .returned v/\(v= .int .i64 cv/\w'=U)):=fun U hU=>by
    have hb:aD U q 164 #[.int .i64 cv,.map (some MM)]:=by rcases hU with rfl|rfl<;>exact hbq2
    refine(aFn q MM cv U hb).mono ?_;rintro e w' ⟨rfl,rfl⟩;exact⟨_,rfl,rfl,rfl⟩
   have hs3:=HX3.out;have u0:w2.cell? ⟨w.heap.size,0,none⟩=some (.int .i64 (i:Int)):=by rw[<-HA.out.src];exact hbm2.cell (o:=0) rfl
   have u1:w2.cell? ⟨w.heap.size,1,none⟩=some (.int .i64 (j:Int)):=by rw[<-HA.out.dst];exact hbm2.cell (o:=1) rfl
   have hway:(jO s i j m).way.length<=1000:=by
    have h9:=(HAR1.out.each n1 (a_ _)).1;rw[<-HAR1.out.fold]at h9;have h8:aN (N+5) (jO s i j m):=by unfold jO;rw[HLK.out];exact h9
    have:=h8.w60;omega
   have HPU:Hid (∀(U:World) (bb:Nat),U=(w2.drew).alloc (Obj.cells (aG {aH with src:=(j:Int),dst:=(i:Int),kind:=0,no:=cv}) 124)->bb=w2.heap.size->Calls prog 153 #[.pointer (some ⟨B,5,none⟩),.slice (some ⟨bb,0,none⟩) 1 1] U fun e w'=>∃v,e= .returned v/\(v= .tuple #[]/\∃part' yv' xs',aQ part' w' B (cB (jO s i j m) {aH with src:=(j:Int),dst:=(i:Int),kind:=0,no:=cv}) kv (.slice (some ⟨gw,0,none⟩) xs.length wc) yv' M xs'/\cI part part' w w')):=fun U bb hU hbb=>by
    subst hU hbb;obtain⟨h9,hm9⟩:=HX3.out.later (((e_ w2.heap.size w2).drew).alloc (by simp) (Obj.cells (aG {aH with src:=(j:Int),dst:=(i:Int),kind:=0,no:=cv}) 124));refine(rX {aH with src:=(j:Int),dst:=(i:Int),kind:=0,no:=cv} w2.heap.size h9 hway (aD.new w2.drew _ _)).mono ?_;rintro e w' ⟨v,rfl,rfl,part',yv',h10,hm10,-⟩;exact⟨_,rfl,rfl,part',yv',xs2,h10,HMV1.out.trans ((HMV2.out.trans hm9).trans hm10).base⟩
   simp only[aH]at HPU;clear hbm2 hbq2 hs3 m0 m1 m2 m3 m4 m5 m6 m7 m8 m9 m10 m11 m12 m13 m14 hcv
   go_region_law (first
    |(refine qW (by rfl) 188 _ _ (by rfl) (.pointer (some ⟨q,0,none⟩)) (by rfl) (enters_of func188 (by kernel_rfl) rfl) (HCM.out _ (by first|exact .inl rfl|exact .inr rfl)) ?_;rintro v8 w8 ⟨rfl,rfl⟩)
    |(refine dY (by rfl) 153 _ _ _ (by rfl) (.pointer (some ⟨B,5,none⟩)) (.slice (some ⟨w2.heap.size,0,none⟩) 1 1) (by rfl) (by rfl) (enters_of func153 (by kernel_rfl) rfl) (HPU.out _ _ rfl rfl) ?_;rintro v9 w9 ⟨rfl,hres⟩;have HRES:=aC hres;clear hres))
   all_goals
    go_wp2_with fail
    go_end0
    refine⟨_,rfl,rfl,?_⟩;rw[HCV.out];exact HRES.out
end Go.Proofs.YtfanaanofjhlkaaGreatDoor
