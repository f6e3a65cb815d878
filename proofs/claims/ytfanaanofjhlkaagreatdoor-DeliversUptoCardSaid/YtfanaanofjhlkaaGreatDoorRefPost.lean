import Derived.Test.YtfanaanofjhlkaaGreatDoorRefWork2
import Derived.Test.YtfanaanofjhlkaaGreatDoorMarkerV
set_option maxHeartbeats 16000000
set_option maxRecDepth 100000
namespace Go.Proofs.YtfanaanofjhlkaaGreatDoor
open Go Go.RowKit Tryz
structure bE(part:Nat->Nat)(W:World)(B:Nat)(s:aE)(kv wv lv yv vv av:Value)(ps:List Nat)(rows:List (Value×List Nat)):Prop where
 box:aD W B 141 (gK s kv wv lv yv vv av)
 pB:part B=1
 kinds:bH (fun b=>part b=6) W kv s.ks
 wrow:cO (fun b=>part b=7) 178 1 jJ W wv ps
 wlen:ps.length=s.W.length
 wat:∀i p x,ps[i]?= some p->s.W[i]?= some x->mA (fun b=>part b=10+i) W p x
 lrow:cO (fun b=>part b=8) 181 1 (fun r:Value×List Nat=>[r.1]) W lv rows
 llen:rows.length=s.links.length
 lat:∀i r ls,rows[i]?= some r->s.links[i]?= some ls->oN part i W r.1 r.2 ls
 yrow:cO (fun b=>part b=2) 124 15 aK W yv s.way
 vrow:cO (fun b=>part b=3) 92 2 dL W vv s.values
 arow:cO (fun b=>part b=4) 212 4 gG W av s.answers
theorem lS.opened{part:Nat->Nat}{W:World}{B:Nat}{s:aE}(h:lS part W B s):∃kv wv lv yv vv av ps rows,bE part W B s kv wv lv yv vv av ps rows:=by
 obtain⟨kv,wv,lv,yv,vv,av,ps,rows,h1,h2,h3,⟨h4,h5,h6⟩,⟨h7,h8,h9⟩,h10,h11,h12⟩:=h;exact⟨kv,wv,lv,yv,vv,av,ps,rows,h1,h2,h3,h4,h5,h6,h7,h8,h9,h10,h11,h12⟩
theorem bE.shut{part:Nat->Nat}{W:World}{B:Nat}{s:aE}{kv wv lv yv vv av:Value}{ps:List Nat}{rows:List (Value×List Nat)}(h:bE part W B s kv wv lv yv vv av ps rows):lS part W B s:=
 ⟨kv,wv,lv,yv,vv,av,ps,rows,h.box,h.pB,h.kinds,⟨h.wrow,h.wlen,h.wat⟩,⟨h.lrow,h.llen,h.lat⟩,h.yrow,h.vrow,h.arow⟩
theorem cI.ok{part part':Nat->Nat}{F:Nat->Prop}{W W':World}{B:Nat}{s:aE}{kv wv lv yv vv av:Value}{ps:List Nat}{rows:List (Value×List Nat)}(h:cI part part' W W')(hr:bE part' W' B s kv wv lv yv vv av ps rows)(hF:∀b,part b≠0->F b) :
  dW (fun b=>F b\/W.heap.size<=b) W' B s/\aB F W W':=by
 refine⟨⟨part',fun b hb=> ?_,hr.shut⟩,h.kept.mono (fun b _ hb=>hF b hb)⟩;rcases Nat.lt_or_ge b W.heap.size with hl|hl
 ·exact .inl (hF b (h.old b hl hb))
 ·exact .inr hl
structure aMn(n:Nat)(part':Nat->Nat)(W':World)(s:aE)(kv wv lv yv vv av:Value)(ps:List Nat)(rows:List (Value×List Nat)):Prop where
 kinds:n≠6->bH (fun b=>part' b=6) W' kv s.ks
 wrow:n≠7->cO (fun b=>part' b=7) 178 1 jJ W' wv ps
 wat:∀i p x,n≠10+i->ps[i]?= some p->s.W[i]?= some x->mA (fun b=>part' b=10+i) W' p x
 lrow:n≠8->cO (fun b=>part' b=8) 181 1 (fun r:Value×List Nat=>[r.1]) W' lv rows
 lat:n≠9->n < 100->∀i r ls,rows[i]?= some r->s.links[i]?= some ls->oN part' i W' r.1 r.2 ls
 lptr:n≠9->∀(i:Nat) (r:Value×List Nat) (ls:List aO),rows[i]?= some r->s.links[i]?= some ls->cO (fun b=>part' b=9) 182 1 jJ W' r.1 r.2/\r.2.length=ls.length
 link:∀(i:Nat) (r:Value×List Nat) (ls:List aO) (j q:Nat) (x:aO),n≠100+10*i+j->rows[i]?= some r->s.links[i]?= some ls->r.2[j]?= some q->ls[j]?= some x->lG (fun b=>part' b=100+10*i+j) W' q x
 yrow:n≠2->cO (fun b=>part' b=2) 124 15 aK W' yv s.way
 vrow:n≠3->cO (fun b=>part' b=3) 92 2 dL W' vv s.values
 arow:n≠4->cO (fun b=>part' b=4) 212 4 gG W' av s.answers
theorem bE.rest{part part':Nat->Nat}{Y:Nat->Prop}{W W':World}{B:Nat}{s:aE}{kv wv lv yv vv av:Value}{ps:List Nat}{rows:List (Value×List Nat)}(h:bE part W B s kv wv lv yv vv av ps rows)(n:Nat)(k:aB Y W W')(hp:∀g,g < W.heap.size->part' g=part g)(hY:∀g,g < W.heap.size->Y g->part g=1\/part g=n) :
  aMn n part' W' s kv wv lv yv vv av ps rows:=by
 have hg:∀t,t≠1->n≠t->∀g,g < W.heap.size->part g=t->¬Y g/\part' g=t:=fun t h1 hn g hl e=>⟨fun hy=>by have:=hY g hl hy;omega,(hp g hl).trans e⟩
 refine⟨fun hn=> ?_,fun hn=>h.wrow.kept k (hg 7 (by omega) hn),fun i p x hn hi hx=>(h.wat i p x hi hx).kept k (hg _ (by omega) hn),fun hn=>h.lrow.kept k (hg 8 (by omega) hn),fun hn hn' i r ls hr hl=>(h.lat i r ls hr hl).kept k (fun g hl e=> ?_),fun hn i r ls hr hl=>⟨(h.lat i r ls hr hl).1.kept k (hg 9 (by omega) hn),(h.lat i r ls hr hl).2.1⟩,fun i r ls j q x hn hr hl hq hx=>((h.lat i r ls hr hl).2.2 j q x hq hx).kept k (hg _ (by omega) hn),fun hn=>h.yrow.kept k (hg 2 (by omega) hn),fun hn=>h.vrow.kept k (hg 3 (by omega) hn),fun hn=>h.arow.kept k (hg 4 (by omega) hn)⟩
 ·exact(h.kinds.below.kept k (fun b hb=>(hg 6 (by omega) hn b hb.2 hb.1).1)).mono' (fun b hb=>(hg 6 (by omega) hn b hb.2 hb.1).2)
 ·exact⟨fun hy=>by have:=hY g hl hy;omega,hp g hl⟩
theorem bE.later{part:Nat->Nat}{W W':World}{B:Nat}{s:aE}{kv wv lv yv vv av:Value}{ps:List Nat}{rows:List (Value×List Nat)}(h:bE part W B s kv wv lv yv vv av ps rows)(hb:Below W.heap.size W W'):bE (ext W part 0) W' B s kv wv lv yv vv av ps rows/\cI part (ext W part 0) W W':=by
 have k:aB (fun b=>W.heap.size<=b) W W':=aB.of_below hb (fun _ _ h=>h);have R:=h.rest (part':=ext W part 0) 5 k (fun g hg=>aY hg) (fun g hl hg=>by omega);exact⟨⟨h.box.below hb h.box.lt,(aY h.box.lt).trans h.pB,R.kinds (by omega),R.wrow (by omega),h.wlen,fun i p x=>R.wat i p x (by omega),R.lrow (by omega),h.llen,R.lat (by omega) (by omega),R.yrow (by omega),R.vrow (by omega),R.arow (by omega)⟩,cI.of 0 k (fun g hl hg=>by omega)⟩
theorem bE.flags{part:Nat->Nat}{W W':World}{B:Nat}{s:aE}{kv wv lv yv vv av:Value}{ps:List Nat}{rows:List (Value×List Nat)}{ar ov dn:Bool}(h:bE part W B s kv wv lv yv vv av ps rows)(k:aB (·= B) W W')(hb:aD W' B 141 (gK {s with around:=ar,over:=ov,done:=dn} kv wv lv yv vv av)) :
  bE (ext W part 0) W' B {s with around:=ar,over:=ov,done:=dn} kv wv lv yv vv av ps rows/\cI part (ext W part 0) W W':=by
 have hY:∀g,g < W.heap.size->g=B->part g=1:=fun g _ e=>by rw[e];exact h.pB
 have R:=h.rest (part':=ext W part 0) 5 k (fun g hg=>aY hg) (fun g hl hg=> .inl (hY g hl hg));exact⟨⟨hb,(aY h.box.lt).trans h.pB,R.kinds (by omega),R.wrow (by omega),h.wlen,fun i p x=>R.wat i p x (by omega),R.lrow (by omega),h.llen,R.lat (by omega) (by omega),R.yrow (by omega),R.vrow (by omega),R.arow (by omega)⟩,cI.of 0 k (fun g hl hg=>by have:=hY g hl hg;omega)⟩
theorem bE.reway{part:Nat->Nat}{W W':World}{B:Nat}{s:aE}{kv wv lv yv vv av yv':Value}{ps:List Nat}{rows:List (Value×List Nat)}{way':List aI}(h:bE part W B s kv wv lv yv vv av ps rows)(k:aB (fun g=>g=B\/part g=2) W W')
  (hb:aD W' B 141 (gK {s with way:=way'} kv wv lv yv' vv av)) (hr:W'.ownsRow 0 124 15 yv' way'.length (way'.flatMap aK)) (ho:∀g,yv'.ownBlock=some g->part g=2/\g < W.heap.size\/W.heap.size<=g) :
  bE (ext W part 2) W' B {s with way:=way'} kv wv lv yv' vv av ps rows/\cI part (ext W part 2) W W':=by
 have hpB:=h.pB;have hY:∀g,g < W.heap.size->(g=B\/part g=2)->part g=1\/part g=2:=fun g _ e=>by rcases e with rfl|e<;>omega
 have R:=h.rest (part':=ext W part 2) 2 k (fun g hg=>aY hg) hY;exact⟨⟨hb,(aY h.box.lt).trans h.pB,R.kinds (by omega),R.wrow (by omega),h.wlen,fun i p x=>R.wat i p x (by omega),R.lrow (by omega),h.llen,R.lat (by omega) (by omega),rC hr ho,R.vrow (by omega),R.arow (by omega)⟩,cI.of 2 k (fun g hl hg=>by have:=hY g hl hg;omega)⟩
theorem bE.revals{part:Nat->Nat}{W W':World}{B:Nat}{s:aE}{kv wv lv yv vv av vv':Value}{ps:List Nat}{rows:List (Value×List Nat)}{vals':List (ByteArray×Int)}(h:bE part W B s kv wv lv yv vv av ps rows)(k:aB (fun g=>g=B\/part g=3) W W')
  (hb:aD W' B 141 (gK {s with values:=vals'} kv wv lv yv vv' av)) (hr:W'.ownsRow 0 92 2 vv' vals'.length (vals'.flatMap dL)) (ho:∀g,vv'.ownBlock=some g->part g=3/\g < W.heap.size\/W.heap.size<=g) :
  bE (ext W part 3) W' B {s with values:=vals'} kv wv lv yv vv' av ps rows/\cI part (ext W part 3) W W':=by
 have hpB:=h.pB;have hY:∀g,g < W.heap.size->(g=B\/part g=3)->part g=1\/part g=3:=fun g _ e=>by rcases e with rfl|e<;>omega
 have R:=h.rest (part':=ext W part 3) 3 k (fun g hg=>aY hg) hY;exact⟨⟨hb,(aY h.box.lt).trans h.pB,R.kinds (by omega),R.wrow (by omega),h.wlen,fun i p x=>R.wat i p x (by omega),R.lrow (by omega),h.llen,R.lat (by omega) (by omega),R.yrow (by omega),rC hr ho,R.arow (by omega)⟩,cI.of 3 k (fun g hl hg=>by have:=hY g hl hg;omega)⟩
theorem bE.reans{part:Nat->Nat}{W W':World}{B:Nat}{s:aE}{kv wv lv yv vv av av':Value}{ps:List Nat}{rows:List (Value×List Nat)}{ans':List fD}(h:bE part W B s kv wv lv yv vv av ps rows)(k:aB (fun g=>g=B\/part g=4) W W')
  (hb:aD W' B 141 (gK {s with answers:=ans'} kv wv lv yv vv av')) (hr:W'.ownsRow 0 212 4 av' ans'.length (ans'.flatMap gG)) (ho:∀g,av'.ownBlock=some g->part g=4/\g < W.heap.size\/W.heap.size<=g) :
  bE (ext W part 4) W' B {s with answers:=ans'} kv wv lv yv vv av' ps rows/\cI part (ext W part 4) W W':=by
 have hpB:=h.pB;have hY:∀g,g < W.heap.size->(g=B\/part g=4)->part g=1\/part g=4:=fun g _ e=>by rcases e with rfl|e<;>omega
 have R:=h.rest (part':=ext W part 4) 4 k (fun g hg=>aY hg) hY;exact⟨⟨hb,(aY h.box.lt).trans h.pB,R.kinds (by omega),R.wrow (by omega),h.wlen,fun i p x=>R.wat i p x (by omega),R.lrow (by omega),h.llen,R.lat (by omega) (by omega),R.yrow (by omega),R.vrow (by omega),rC hr ho⟩,cI.of 4 k (fun g hl hg=>by have:=hY g hl hg;omega)⟩
theorem mA.mono{X X':Nat->Prop}{W:World}{p:Nat}{s:cF}(h:mA X W p s)(hx:∀b,X b->X' b):mA X' W p s:=by
 obtain⟨tv,h1,h2,h3,h4⟩:=h;exact⟨tv,h1,hx _ h2,h3,fun g e=>hx g (h4 g e)⟩
theorem lG.mono{X X':Nat->Prop}{W:World}{p:Nat}{s:aO}(h:lG X W p s)(hx:∀b,X b->X' b):lG X' W p s:=by
 obtain⟨av,kv,h1,h2,⟨h3,h4⟩,⟨h5,h6⟩⟩:=h;exact⟨av,kv,h1,hx _ h2,⟨h3,fun g e=>hx g (h4 g e)⟩,⟨h5,fun g e=>hx g (h6 g e)⟩⟩
theorem bE.reworker{part:Nat->Nat}{W W':World}{B:Nat}{s:aE}{kv wv lv yv vv av:Value}{ps:List Nat}{rows:List (Value×List Nat)}{i p:Nat}{x':cF}(h:bE part W B s kv wv lv yv vv av ps rows)(hi:i < 90)(hp:ps[i]?= some p)(k:aB (fun g=>part g=10+i) W W')
  (hx:mA (fun b=>part b=10+i/\b < W.heap.size\/W.heap.size<=b) W' p x') :
  bE (ext W part (10+i)) W' B {s with W:=s.W.set i x'} kv wv lv yv vv av ps rows/\cI part (ext W part (10+i)) W W':=by
 have hpB:=h.pB;have R:=h.rest (part':=ext W part (10+i)) (10+i) k (fun g hg=>aY hg) (fun g _ hg=> .inr hg);refine⟨⟨h.box.kept k (by omega),(aY h.box.lt).trans h.pB,R.kinds (by omega),R.wrow (by omega),by simpa using h.wlen,fun i' p' x hp' hx'=> ?_,R.lrow (by omega),h.llen,R.lat (by omega) (by omega),R.yrow (by omega),R.vrow (by omega),R.arow (by omega)⟩,cI.of _ k (fun g hl hg=>by omega)⟩;by_cases e:i'=i
 ·subst e
  have hpe:p'=p:=by rw[hp]at hp';exact(Option.some.inj hp').symm
  have hlt:i' < s.W.length:=by have:=(c_.1 hp').1;have:=h.wlen;omega
  have hxe:x=x':=by
   have h1:(s.W.set i' x')[i']?= some x:=hx';rw[i8 hlt]at h1;exact(Option.some.inj h1).symm
  subst hpe hxe;exact hx.mono (fun b hb=>by
   rcases hb with⟨h1,h2⟩|h1
   ·exact(aY h2).trans h1
   ·exact gF h1)
 ·refine R.wat i' p' x (by omega) hp' ?_
  have h1:(s.W.set i x')[i']?= some x:=hx';rwa [List.getElem?_set_ne (fun e'=>e e'.symm)]at h1
theorem bE.relink{part:Nat->Nat}{W W':World}{B:Nat}{s:aE}{kv wv lv yv vv av:Value}{ps:List Nat}{rows:List (Value×List Nat)}{i j q:Nat}{r:Value×List Nat}{ls:List aO}{x':aO}(h:bE part W B s kv wv lv yv vv av ps rows)(h9:∀l∈s.links,l.length<=9)(h89:s.W.length<=89)
  (hr:rows[i]?= some r) (hl:s.links[i]?= some ls) (hq:r.2[j]?= some q) (k:aB (fun g=>part g=100+10*i+j) W W')
  (hx:lG (fun b=>part b=100+10*i+j/\b < W.heap.size\/W.heap.size<=b) W' q x') :
  bE (ext W part (100+10*i+j)) W' B {s with links:=s.links.set i (ls.set j x')} kv wv lv yv vv av ps rows/\cI part (ext W part (100+10*i+j)) W W':=by
 have hpB:=h.pB;have R:=h.rest (part':=ext W part (100+10*i+j)) (100+10*i+j) k (fun g hg=>aY hg) (fun g _ hg=> .inr hg);have hjl:j < ls.length:=by have:=(c_.1 hq).1;have:=(h.lat i r ls hr hl).2.1;omega
 have hj9:=h9 ls (d_ hl);refine⟨⟨h.box.kept k (by omega),(aY h.box.lt).trans h.pB,R.kinds (by omega),R.wrow (by omega),h.wlen,fun i' p x hp' hx'=>R.wat i' p x (by have:=(c_.1 hp').1;have:=h.wlen;omega) hp' hx',R.lrow (by omega),by simpa using h.llen,fun i' r' ls' hr' hl'=> ?_,R.yrow (by omega),R.vrow (by omega),R.arow (by omega)⟩,cI.of _ k (fun g hl hg=>by omega)⟩;have hl1:(s.links.set i (ls.set j x'))[i']?= some ls':=hl';by_cases e:i'=i
 ·subst e
  obtain rfl:r'=r:=by rw[hr]at hr';exact(Option.some.inj hr').symm
  rw[i8 (c_.1 hl).1]at hl1;obtain rfl:=Option.some.inj hl1;obtain⟨h1,h2⟩:=R.lptr (by omega) i' r' ls hr hl;refine⟨h1,by simpa using h2,fun j' q' x hq' hx'=> ?_⟩;by_cases e:j'=j
  ·subst e
   rw[hq]at hq';obtain rfl:=Option.some.inj hq';rw[i8 hjl]at hx';obtain rfl:=Option.some.inj hx';exact hx.mono (fun b hb=>by
    rcases hb with⟨h1,h2⟩|h1
    ·exact(aY h2).trans h1
    ·exact gF h1)
  ·rw[List.getElem?_set_ne (fun e'=>e e'.symm)]at hx'
   exact R.link i' r' ls j' q' x (by omega) hr hl hq' hx'
 ·rw[List.getElem?_set_ne (fun e'=>e e'.symm)]at hl1
  obtain⟨h1,h2⟩:=R.lptr (by omega) i' r' ls' hr' hl1;refine⟨h1,h2,fun j' q' x hq' hx'=>R.link i' r' ls' j' q' x ?_ hr' hl1 hq' hx'⟩;have:=(c_.1 hx').1;have:=h9 ls' (d_ hl1);omega
theorem pN(m:aI){part:Nat->Nat}{w:World}{B:Nat}{s:aE}{kv wv lv yv vv av:Value}{ps:List Nat}{rows:List (Value×List Nat)}(h:bE part w B s kv wv lv yv vv av ps rows)(hn:s.way.length<=1000) :
  Calls prog 136 #[.pointer (some ⟨B,0,none⟩),.agg (aG m)] w fun e w'=>e= .returned (.tuple #[])/\∃part' yv',bE part' w' B (cB s m) kv wv lv yv' vv av ps rows/\cI part part' w w':=by
 obtain⟨iM,hiM,hzM0,hzM1,hzM2⟩:=info_parts jS;obtain⟨ya,yc,hyf⟩:=bG h.yrow.1;subst hyf;obtain⟨Z,hZ⟩:∃Z,w.alloc (Obj.cells (aG m) 124)=Z:=⟨_,rfl⟩;have hbZ:Below w.heap.size w Z:=by rw[<-hZ];exact(e_ _ _).alloc (a_ _) _
 have bM:aD Z w.heap.size 124 (aG m):=by rw[<-hZ];exact aD.new w _ _
 have SZ:Hid (Z.heap.size=w.heap.size+1):=by show _=_;rw[<-hZ];simp
 have bR:=h.box.below hbZ h.box.lt;have b8:=bR.cell (o:=8) rfl;have f8:=bR.frozen 8;have HBR:=aC bR;have HH:=aC h;have HRY:=aC (mK h.yrow.1 hbZ);have HBZ:=aC hbZ;have hbl:=h.box.lt;have hbz:B < Z.heap.size:=bR.lt;have HNE:Hid ((Value.slice ya s.way.length yc).ownBlock≠some B):=bF h.yrow.1 h.box (by decide);obtain⟨m0,m1,m2,m3,m4,m5,m6,m7,m8,m9,m10,m11,m12,m13,m14⟩:=eF bM;clear bM bR hbZ h;by_cases hlt:s.way.length < 60
 ·have HS:Hid (cB s m={s with way:=s.way++ [m]}):=by show _=_;simp[cB,hlt]
  have l1:(s.way.length:Int) < 60:=by omega
  go_enter func136,ntmps136
  go_upto_region 2 with fail
  go_region_law (refine step_append_lies _ (by rfl) _ _ _ (by rfl) 0 124 iM _ 15 128 underlying68 hiM hzM0 hzM1 hzM2 rfl (by omega) (.slice ya s.way.length yc) s.way.length (s.way.flatMap aK) (by rfl) ((HRY.out.alloc _).drew) ⟨Z.heap.size,0,none⟩ 1 1 (aK m) (by rfl) (by rfl) (World.news_of_block (cs:=aG m) (t:=124) (fr:=(0,0)) (heap_alloc_new Z _)) (by simp[aK,Value.oneCell']) (by omega) (by unfold maxLen;omega) (by omega) (by simp) (Z.heap.size+1) (by simp) ?_;intro g cp w1 hown1 hgrow hat hlt1;have hbx:aD w1 B 141 (gK s kv wv lv (.slice ya s.way.length yc) vv av):=(hgrow.block B (by simp;have:=SZ.out;omega) (fun e=>HNE.out e.symm)).trans (HBR.out.alloc _);have c8:=hbx.cell (o:=8) rfl;have e8:=hbx.frozen 8)
  all_goals
   go_wp2_with fail
   go_end0
   have kG:aB (fun g=>g=B\/part g=2) w w1:=(((aB.of_below HBZ.out (fun k h1 h2=>absurd h1 (by omega))).trans (aB.alloc _ Z _)).drew).trans (aB.grown hgrow (fun r e=> .inr (HH.out.yrow.2 r e)));have kS:aB (·= B) w1 (w1.setCell ⟨B,8,none⟩ (.slice (some ⟨g,0,none⟩) (s.way.length+1) cp)):=(aB.refl _ _).setCell (.inl (by rfl)) _;rw[HS.out];obtain⟨h1,h2⟩:=HH.out.reway (way':=s.way++ [m]) (kG.trans (kS.mono (fun _ _ h=> .inl h))) (hbx.setAt 8 _) (by
    rw[List.flatMap_append,f_,List.length_singleton];simpa using aP hown1 kS (fun g' e h=>by subst h;exact bF hown1 hbx (by decide) e) (a_ _)) (fun g' e=>by
    obtain rfl:g=g':=by simpa[Value.ownBlock]using e
    rcases hat with h|h
    ·exact .inl ⟨HH.out.yrow.2 g h,(HH.out.yrow.1.lt g h).2⟩
    ·exact .inr (by have:=SZ.out;omega))
   exact⟨rfl,_,_,h1,h2⟩
 ·have HS:Hid (cB s m=s):=by show _=_;simp[cB,hlt]
  have l1:¬(s.way.length:Int) < 60:=by omega
  go_enter func136,ntmps136
  go_wp2_with fail
  go_end0
  obtain⟨h1,h2⟩:=HH.out.later HBZ.out;rw[HS.out];exact⟨rfl,_,⟨_,h1⟩,h2⟩
end Go.Proofs.YtfanaanofjhlkaaGreatDoor
