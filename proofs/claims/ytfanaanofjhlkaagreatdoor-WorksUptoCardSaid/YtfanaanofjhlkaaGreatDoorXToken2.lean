import Derived.Test.YtfanaanofjhlkaaGreatDoorXAnswer
import Derived.BigRegion
set_option maxHeartbeats 16000000
set_option maxRecDepth 100000
namespace Go.Proofs.YtfanaanofjhlkaaGreatDoor
open Go Go.RowKit Tryz
theorem pF(L:List fD)(a:fD):iE (L++ [a])=a:=by simp[iE]
theorem tF(L:List fD)(a:fD):eX (L++ [a])=iE L:=by simp[eX,iE]
theorem qV(n:Int)(L:List fD)(a:fD):lR n (L++ [a])=n - a.many:=by simp[lR,iE]
theorem aQ.xcell{part:Nat->Nat}{W:World}{B M n c gw j:Nat}{s:aE}{kv yv:Value}{xs:List XW}{x:XW}(h:aQ part W B s kv (.slice (some ⟨gw,0,none⟩) n c) yv M xs)(hx:xs[j]?= some x)(o:Nat)(u:Value)(hu:(dB x)[o]?= some u):W.cell? ⟨gw,j*8+o,none⟩=some u:=by
 have h1:=h.wrow.1.cells (g:=gw) rfl (j*8+o) _ (dZ (sz:=8) (enc:=dB) (fun _=>rfl) xs j x o _ hx hu);rwa [dP]at h1
theorem aGm(m:aI)(j:Nat){part:Nat->Nat}{w:World}{B M:Nat}{s:aE}{kv wv yv:Value}{xs:List XW}{y:cF}(h:aQ part w B s kv wv yv M xs)(hd:m.dst=j)(hy:s.W[j]?= some y)(hm1:s.mode=1) :
  Calls prog 202 #[.pointer (some ⟨B,0,none⟩),.agg (aG m)] w fun e w'=>∃v,e= .returned v/\(v= .tuple #[]/\∃part' xs',aQ part' w' B {s with W:=s.W.set j {y with has:=true,token:=m},around:=s.around||m.dst==0} kv wv yv M xs'/\bD part part' w w'):=by
 have hjl:=(c_.1 hy).1;have hxl:=h.wlen;obtain⟨x,hx⟩:∃x,xs[j]?= some x:=⟨_,b_ (by omega)⟩;obtain⟨gw,wc,hwf,-,hgw⟩:=World.ownsRow.form h.wrow.1 (by omega);subst hwf;obtain⟨Z,hZ⟩:∃Z,w.alloc (Obj.cells (aG m) 124)=Z:=⟨_,rfl⟩;have gZ:Below w.heap.size w Z:=by rw[<-hZ];exact(e_ _ _).alloc (a_ _) _
 have bZ:aD Z w.heap.size 124 (aG m):=by rw[<-hZ];exact aD.new w _ _
 obtain⟨hxZ,hmZ⟩:=h.later gZ;have b3:Z.cell? ⟨B,4,none⟩=some (.slice (some ⟨gw,0,none⟩) xs.length wc):=hxZ.box.cell (o:=4) rfl;have d1:Z.cell? ⟨w.heap.size,1,none⟩=some (.int .i64 (j:Int)):=by rw[<-hd];exact bZ.cell (o:=1) rfl
 have d9:=bZ.cell (o:=9) rfl;have d11:=bZ.cell (o:=11) rfl;have a7:=hxZ.xcell hx 7 _ rfl;have f7:Z.frozen? ⟨gw,j*8+7,none⟩=false:=by
  obtain⟨cs,hcs⟩:=eO hxZ.wrow.1 (g:=gw) rfl;have hb:aD Z gw 119 cs:=hcs;exact hb.frozen _
 have hgZ:gw < Z.heap.size:=(hxZ.wrow.1.lt gw rfl).2;obtain⟨jz,hjz⟩:∃jz,((j:Int)==0)=jz:=⟨_,rfl⟩;have b3':∀o,(Z.alloc o).cell? ⟨B,4,none⟩=some (.slice (some ⟨gw,0,none⟩) xs.length wc):=fun o=>cE o b3
 have b3'':∀o,(Z.drew.alloc o).cell? ⟨B,4,none⟩=some (.slice (some ⟨gw,0,none⟩) xs.length wc):=fun o=>cE (w:=Z.drew) o b3
 have d1':∀o,(Z.alloc o).cell? ⟨w.heap.size,1,none⟩=some (.int .i64 (j:Int)):=fun o=>cE o d1
 have d1'':∀o,(Z.drew.alloc o).cell? ⟨w.heap.size,1,none⟩=some (.int .i64 (j:Int)):=fun o=>cE (w:=Z.drew) o d1
 have a7':∀o,(Z.alloc o).cell? ⟨gw,j*8+7,none⟩=some (.pointer (x.tok.map (fun b=>⟨b,0,none⟩))):=fun o=>cE o a7
 have a7'':∀o,(Z.drew.alloc o).cell? ⟨gw,j*8+7,none⟩=some (.pointer (x.tok.map (fun b=>⟨b,0,none⟩))):=fun o=>cE (w:=Z.drew) o a7
 have j1:(0:Int)<=(j:Int):=by omega
 have j2:(j:Int) < (xs.length:Int):=by omega
 have HXZ:=aC hxZ;have HMZ:=aC hmZ;have HX:Hid (xs[j]?= some x):=hx;have HY:Hid (s.W[j]?= some y):=hy;have HJZ:Hid (((j:Int)==0)=jz):=hjz;clear h gZ bZ hxZ hmZ;go_enter func202,ntmps202
 go_upto_region 1 with fail
 try rw[hZ]
 clear hZ
 go_region
 all_goals
  go_wp2_with fail
  go_end0
  obtain⟨Y,hYe⟩:∃Y,((Z.setCell ⟨gw,j*8+7,none⟩ (.pointer (some ⟨Z.heap.size,0,none⟩))).alloc (Obj.cells #[.int .i64 m.count,.bool m.black,.bool jz] 167)).drew=Y:=⟨_,rfl⟩;have kY:aB (·= gw) Z Y:=by rw[<-hYe];exact(((aB.refl (·= gw) Z).setCell (.inl (by rfl)) _).trans (aB.alloc _ _ _)).drew
  have r1:=nP (x':={x with tok:=some Z.heap.size}) (u:= .pointer (some ⟨Z.heap.size,0,none⟩)) (o:=7) HXZ.out.wrow.1 HX.out (by omega) rfl;have r2:Y.ownsRow 0 119 8 (.slice (some ⟨gw,0,none⟩) xs.length wc) (xs.set j {x with tok:=some Z.heap.size}).length ((xs.set j {x with tok:=some Z.heap.size}).flatMap dB):=by rw[<-hYe];exact(r1.alloc _).drew
  have bq:aD Y Z.heap.size 167 #[.int .i64 m.count,.bool m.black,.bool jz]:=by rw[<-hYe];exact fM _ _ _ _ (by simp)
  rw[hYe];have hxw:=HXZ.out.wat j x y HX.out HY.out;have hpg:ext w part 0 gw=7:=HXZ.out.wrow.2 gw rfl;have hjb:(j==0&&(s.around||m.dst==0))=jz:=by
   rw[<-HJZ.out,hd];cases j<;>simp<;>omega
  obtain⟨h2,hm2⟩:=HXZ.out.retok (n:=20+j) (ar:=s.around||m.dst==0) (x':={x with tok:=some Z.heap.size}) (y':={y with has:=true,token:=m}) HX.out HY.out rfl ⟨hxw.1.asked,hxw.1.sent,hxw.1.came,hxw.1.black⟩ ⟨rfl,rfl,rfl⟩ (kY.mono (fun b _ e=>by subst e;exact hpg)) (.inr rfl) (fun h0=>by rw[hd];simp;intro h1;omega) ⟨⟨rfl,hm1⟩,by rw[hjb];exact bq,gF (a_ _)⟩ r2;exact⟨_,rfl,rfl,_,_,h2,HMZ.out.trans hm2⟩
theorem aIq(gw k q:Nat)(cnt st cm:Int)(tb rd wb:Bool)(w:World)(h4:w.cell? ⟨gw,k*8+4,none⟩=some (.int .i64 st))(h5:w.cell? ⟨gw,k*8+5,none⟩=some (.int .i64 cm))(h6:w.cell? ⟨gw,k*8+6,none⟩=some (.bool wb))(h7:w.cell? ⟨gw,k*8+7,none⟩=some (.pointer (some ⟨q,0,none⟩)))(hq:aD w q 167 #[.int .i64 cnt,.bool tb,.bool rd])
  (hgw:gw < w.heap.size) (hs:0<=st/\st<=1000000000) (hc:0<=cm/\cm<=1000000000) (hn: -100000000000000000<=cnt/\cnt<=100000000000000000) :
  Calls prog 150 #[.pointer (some ⟨gw,k*8,none⟩)] w fun e w'=>∃v,e= .returned v/\(v= .agg #[.int .i64 (cnt+(st - cm)),.bool (tb||wb),.bool rd]/\Below w.heap.size w w'):=by
 have q0:=hq.cell (o:=0) rfl;have q1:=hq.cell (o:=1) rfl;have q2:=hq.cell (o:=2) rfl;have hql:=hq.lt;obtain⟨Z0,hZ0⟩:∃Z0,w.alloc (Obj.cells #[.int .i64 0,.bool false,.bool false] 167)=Z0:=⟨_,rfl⟩;obtain⟨V,hV⟩:∃V,Z0.alloc (Obj.cells #[.int .i64 cnt,.bool tb,.bool rd] 167)=V:=⟨_,rfl⟩;have s0:Z0.heap.size=w.heap.size+1:=by rw[<-hZ0];simp
 have g0:Below w.heap.size w Z0:=by rw[<-hZ0];exact(e_ _ _).alloc (a_ _) _
 have gV0:Below Z0.heap.size Z0 V:=by rw[<-hV];exact(e_ _ _).alloc (a_ _) _
 have gV:Below w.heap.size w V:=g0.trans (gV0.mono g0.size);have bR:aD V w.heap.size 167 #[.int .i64 0,.bool false,.bool false]:=by rw[<-hV,<-hZ0];exact(aD.new w _ _).alloc _
 have bT:aD V (w.heap.size+1) 167 #[.int .i64 cnt,.bool tb,.bool rd]:=by rw[<-hV,<-s0];exact aD.new Z0 _ _
 have u0:=(hq.below g0 hql).cell (o:=0) rfl;have u1:=(hq.below g0 hql).cell (o:=1) rfl;have u2:=(hq.below g0 hql).cell (o:=2) rfl;have u7:Z0.cell? ⟨gw,k*8+7,none⟩=some (.pointer (some ⟨q,0,none⟩)):=(g0.cell (p:=⟨gw,k*8+7,none⟩) hgw).trans h7;have v4:V.cell? ⟨gw,k*8+4,none⟩=some (.int .i64 st):=(gV.cell (p:=⟨gw,k*8+4,none⟩) hgw).trans h4;have v5:V.cell? ⟨gw,k*8+5,none⟩=some (.int .i64 cm):=(gV.cell (p:=⟨gw,k*8+5,none⟩) hgw).trans h5;have v6:V.cell? ⟨gw,k*8+6,none⟩=some (.bool wb):=(gV.cell (p:=⟨gw,k*8+6,none⟩) hgw).trans h6;have t0:=bT.cell (o:=0) rfl;have f0:=bT.frozen 0;have a1:IntKind.i64.wrap (st - cm)=st - cm:=IntWalk.i64_in _ (by omega);have a2:IntKind.i64.wrap (cnt+(st - cm))=cnt+(st - cm):=IntWalk.i64_in _ (by omega);have HGV:=aC gV;have HBT:=aC bT;have HBR:=aC bR;have HV6:Hid (V.cell? ⟨gw,k*8+6,none⟩=some (.bool wb)):=v6;have sV:V.heap.size=w.heap.size+2:=by rw[<-hV];simp[s0]
 clear gV g0 gV0 bT bR hq q0 q1 q2 h4 h5 h6 h7 v6;go_enter func150,ntmps150
 go_upto_region 1 with fail
 try rw[hZ0]
 go_upto_region 2 with fail
 try rw[s0]
 try rw[hV]
 clear hV hZ0 u0 u1 u2 u7
 go_region
 all_goals
  obtain⟨Y,hY⟩:∃Y,(V.setCell ⟨w.heap.size+1,0,none⟩ (.int .i64 (cnt+(st - cm)))).drew=Y:=⟨_,rfl⟩;have bY:aD Y (w.heap.size+1) 167 #[.int .i64 (cnt+(st - cm)),.bool tb,.bool rd]:=by rw[<-hY];exact HBT.out.setAt 0 _
  have bRY:aD Y w.heap.size 167 #[.int .i64 0,.bool false,.bool false]:=by rw[<-hY];exact HBR.out.far ⟨w.heap.size+1,0,none⟩ _ (by show w.heap.size≠w.heap.size+1;omega)
  have y6:Y.cell? ⟨gw,k*8+6,none⟩=some (.bool wb):=by rw[<-hY];exact(World.cell?_setCell_far V ⟨w.heap.size+1,0,none⟩ ⟨gw,k*8+6,none⟩ _ (by show w.heap.size+1≠gw;omega)).trans HV6.out
  have HGY:Hid (Below w.heap.size w Y):=by show Below _ _ _;rw[<-hY];exact(HGV.out.setCell (p:=⟨w.heap.size+1,0,none⟩) (by show w.heap.size<=w.heap.size+1;omega) _).drew
  rw[hY];clear hY t0 f0 v4 v5;have t0:=bY.cell (o:=0) rfl;have t1:=bY.cell (o:=1) rfl;have t2:=bY.cell (o:=2) rfl;have f1:=bY.frozen 1;have r0:=bRY.cell (o:=0) rfl;have r1:=bRY.cell (o:=1) rfl;have r2:=bRY.cell (o:=2) rfl;have e0:=bRY.frozen 0;have e1:=bRY.frozen 1;have e2:=bRY.frozen 2;have HBRY:=aC bRY;have hne1:w.heap.size≠w.heap.size+1:=by omega
  have hend:∀bb:Bool,aD ((((Y.setCell ⟨w.heap.size+1,1,none⟩ (.bool bb)).setCell ⟨w.heap.size,0,none⟩ (.int .i64 (cnt+(st - cm)))).setCell ⟨w.heap.size,1,none⟩ (.bool bb)).setCell ⟨w.heap.size,2,none⟩ (.bool rd)) w.heap.size 167 #[.int .i64 (cnt+(st - cm)),.bool bb,.bool rd]/\Below w.heap.size w ((((Y.setCell ⟨w.heap.size+1,1,none⟩ (.bool bb)).setCell ⟨w.heap.size,0,none⟩ (.int .i64 (cnt+(st - cm)))).setCell ⟨w.heap.size,1,none⟩ (.bool bb)).setCell ⟨w.heap.size,2,none⟩ (.bool rd)):=fun bb=>
   ⟨(((HBRY.out.far ⟨w.heap.size+1,1,none⟩ _ hne1).setAt 0 _).setAt 1 _).setAt 2 _,(((HGY.out.setCell (p:=⟨w.heap.size+1,1,none⟩) (by show w.heap.size<=w.heap.size+1;omega) _).setCell (p:=⟨w.heap.size,0,none⟩) (a_ _) _).setCell (p:=⟨w.heap.size,1,none⟩) (a_ _) _).setCell (p:=⟨w.heap.size,2,none⟩) (a_ _) _⟩
  have HEND:=aC hend;clear hend bRY;cases tb
  ·go_wp2_with fail
   have q0:=(HEND.out wb).1.cell (o:=0) rfl;have q1:=(HEND.out wb).1.cell (o:=1) rfl;have q2:=(HEND.out wb).1.cell (o:=2) rfl;refine bodyPost_ret (v:= .agg #[.int .i64 (cnt+(st - cm)),.bool wb,.bool rd]) (by simp[results,results150,go_sem,q0,q1,q2]) rfl ⟨_,rfl,rfl,(HEND.out wb).2⟩
  ·go_wp2_with fail
   have q0:=(HEND.out true).1.cell (o:=0) rfl;have q1:=(HEND.out true).1.cell (o:=1) rfl;have q2:=(HEND.out true).1.cell (o:=2) rfl;refine bodyPost_ret (v:= .agg #[.int .i64 (cnt+(st - cm)),.bool true,.bool rd]) (by simp[results,results150,go_sem,q0,q1,q2]) rfl ⟨_,rfl,rfl,(HEND.out true).2⟩
theorem wR(i j:Nat)(cnt:Int)(bl rd:Bool){part:Nat->Nat}{w:World}{B M:Nat}{s:aE}{kv wv yv:Value}{xs:List XW}{ls:List aO}{l:aO}{y:cF}(h:aQ part w B s kv wv yv M xs)(hy:s.W[i]?= some y)(hls:s.links[i]?= some ls)(hl:ls[j]?= some l)(hij:j≠i)(hk:l.known.toNat<=l.all.length)(hn:l.all.length<=100000000)(hw:s.way.length<=1000) :
  Calls prog 149 #[.pointer (some ⟨B,0,none⟩),.int .i64 (i:Int),.int .i64 (j:Int),.agg #[.int .i64 cnt,.bool bl,.bool rd]] w fun e w'=>∃v,e= .returned v/\(v= .tuple #[]/\∃part' yv' xs',aQ part' w' B (aR {s with W:=s.W.set i {y with black:=false,has:=false}} {aH with src:=(i:Int),dst:=(j:Int),kind:=5,count:=cnt,black:=bl}) kv wv yv' M xs'/\bD part part' w w'):=by
 have hil:=(c_.1 hy).1;have hxl:=h.wlen;obtain⟨x,hx⟩:∃x,xs[i]?= some x:=⟨_,b_ (by omega)⟩;obtain⟨gw,wc,hwf,-,hgw⟩:=World.ownsRow.form h.wrow.1 (by omega);subst hwf;obtain⟨Z,hZ⟩:∃Z,w.alloc (Obj.cells #[.int .i64 cnt,.bool bl,.bool rd] 167)=Z:=⟨_,rfl⟩;have gZ:Below w.heap.size w Z:=by rw[<-hZ];exact(e_ _ _).alloc (a_ _) _
 have bZ:aD Z w.heap.size 167 #[.int .i64 cnt,.bool bl,.bool rd]:=by rw[<-hZ];exact aD.new w _ _
 obtain⟨hxZ,hmZ⟩:=h.later gZ;have hxw:=hxZ.wat i x y hx hy;have b3:Z.cell? ⟨B,4,none⟩=some (.slice (some ⟨gw,0,none⟩) xs.length wc):=hxZ.box.cell (o:=4) rfl;have a7:=hxZ.xcell hx 7 _ rfl;have a6:=hxZ.xcell hx 6 _ rfl;obtain⟨cur,hcur⟩:∃cur,aD Z gw 119 cur:=by
  obtain⟨cs,hcs⟩:=eO hxZ.wrow.1 (g:=gw) rfl;exact⟨cs,hcs⟩
 have f7:=hcur.frozen (i*8+7);have f6:=hcur.frozen (i*8+6);have hpg:ext w part 0 gw=7:=hxZ.wrow.2 gw rfl;have hgl:gw < w.heap.size:=(h.wrow.1.lt gw rfl).2;obtain⟨Y,hY⟩:∃Y,(Z.setCell ⟨gw,i*8+7,none⟩ (.pointer none)).setCell ⟨gw,i*8+6,none⟩ (.bool false)=Y:=⟨_,rfl⟩;have kY:aB (·= gw) Z Y:=by rw[<-hY];exact((aB.refl (·= gw) Z).setCell (.inl (by rfl)) _).setCell (.inl (by rfl)) _
 have r1:=nP (x':={x with tok:=none}) (u:= .pointer none) (o:=7) hxZ.wrow.1 hx (by omega) rfl;have hl1:(xs.set i {x with tok:=none}).length=xs.length:=List.length_set ..;have r1':(Z.setCell ⟨gw,i*8+7,none⟩ (.pointer none)).ownsRow 0 119 8 (.slice (some ⟨gw,0,none⟩) (xs.set i {x with tok:=none}).length wc) (xs.set i {x with tok:=none}).length ((xs.set i {x with tok:=none}).flatMap dB):=by
  rw[hl1]at r1 ⊢;exact r1
 have r2:=nP (x':={x with tok:=none,black:=false}) (u:= .bool false) (o:=6) r1' (i8 (by omega)) (by omega) rfl;rw[rB,hl1,hY]at r2;obtain⟨h2,hm2⟩:=hxZ.retok (n:=0) (ar:=s.around) (x':={x with tok:=none,black:=false}) (y':={y with black:=false,has:=false}) hx hy rfl ⟨hxw.1.asked,hxw.1.sent,hxw.1.came,rfl⟩ ⟨rfl,rfl,rfl⟩ (kY.mono (fun b _ e=>by subst e;exact hpg)) (.inl rfl) (fun _=>rfl) (fun _=>rfl) r2;have bY:aD Y w.heap.size 167 #[.int .i64 cnt,.bool bl,.bool rd]:=bZ.kept kY (by omega);have t0:=bY.cell (o:=0) rfl;have t1:=bY.cell (o:=1) rfl;have i0:(0:Int)<=(i:Int):=by omega
 have i1:(i:Int) < (xs.length:Int):=by omega
 have HSD:Hid (∀(U:World) (bb:Nat),U=Y.alloc (Obj.cells (aG {aH with kind:=5,count:=cnt,black:=bl}) 124)->bb=Y.heap.size->Calls prog 165 #[.pointer (some ⟨B,0,none⟩),.int .i64 (i:Int),.int .i64 (j:Int),.slice (some ⟨bb,0,none⟩) 1 1] U fun e w'=>∃v,e= .returned v/\(v= .tuple #[]/\∃part' yv' xs',aQ part' w' B (aR {s with W:=s.W.set i {y with black:=false,has:=false}} {aH with src:=(i:Int),dst:=(j:Int),kind:=5,count:=cnt,black:=bl}) kv (.slice (some ⟨gw,0,none⟩) xs.length wc) yv' M xs'/\bD part part' w w')):=fun U bb hU hbb=>by
  subst hU hbb;obtain⟨h3,hm3⟩:=h2.later ((e_ Y.heap.size Y).alloc (a_ _) (Obj.cells (aG {aH with kind:=5,count:=cnt,black:=bl}) 124));refine(oO i j {aH with kind:=5,count:=cnt,black:=bl} Y.heap.size h3 hls hl hij hk hn hw (aD.new Y _ _)).mono ?_;rintro e w' ⟨v,rfl,rfl,part',yv',h4,hm4⟩;refine⟨_,rfl,rfl,part',yv',xs.set i {x with tok:=none,black:=false},?_,((hmZ.trans hm2).trans hm3).trans hm4⟩;rw[pH _ i j _ (by simp) rfl rfl];exact h4
 clear h h2 hm2 hxw hcur r1 r1' r2 kY bZ bY hxZ hmZ;simp only[aH]at HSD;go_enter func149,ntmps149
 go_upto_region 1 with fail
 try rw[hZ]
 clear hZ
 go_upto_region 3 with fail
 try rw[hY]
 clear hY a6 a7 f6 f7 b3
 go_wp2_with (go_at_call 165;refine(HSD.out _ _ rfl rfl).mono ?_;rintro e w3 ⟨v3,rfl,rfl,hres⟩;have HRES:=aC hres;clear hres)
 go_end0
 exact⟨_,rfl,rfl,HRES.out⟩
end Go.Proofs.YtfanaanofjhlkaaGreatDoor
