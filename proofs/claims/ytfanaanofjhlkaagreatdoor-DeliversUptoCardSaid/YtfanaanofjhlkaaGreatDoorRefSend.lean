import Derived.Test.YtfanaanofjhlkaaGreatDoorRefPost
set_option maxHeartbeats 16000000
set_option maxRecDepth 100000
namespace Go.Proofs.YtfanaanofjhlkaaGreatDoor
open Go Go.RowKit Tryz
theorem gB{n:Nat}{A W:World}(h:Below n A W)(k:Nat):Below n A (W.drewN k):=(aB.drewN (aB.of_below h (X:=fun b=>n<=b) (fun _ _ h=>h)) k) |> fun q=>⟨h.os,h.tape,h.output,q.size,h.block⟩
theorem aD.ne{W:World}{a b:Nat}{t t':TypeId}{cs cs':Array Value}(h:aD W a t cs)(h':aD W b t' cs')(hne:t≠t'):a≠b:=by
 rintro rfl;have:=h.symm.trans h';simp at this;exact hne this.2
theorem xP{W:World}{base base' e e' sz sz' n n' g:Nat}{v v':Value}{xs xs':List Value}(h:W.ownsRow base e sz v n xs)(h':W.ownsRow base' e' sz' v' n' xs')(hne:e≠e')(hg:v.ownBlock=some g)(hg':v'.ownBlock=some g):False:=by
 obtain⟨cs,hcs⟩:=eO h hg;exact bF h' hcs hne hg'
theorem bE.ptrW{part:Nat->Nat}{w:World}{B:Nat}{s:aE}{kv wv lv yv vv av:Value}{ps:List Nat}{rows:List (Value×List Nat)}(h:bE part w B s kv wv lv yv vv av ps rows){i:Nat}{x:cF}(hx:s.W[i]?= some x) :
  ∃p gw wc,ps[i]?= some p/\wv= .slice (some ⟨gw,0,none⟩) ps.length wc/\gw < w.heap.size/\w.cell? ⟨gw,i,none⟩=some (.pointer (some ⟨p,0,none⟩))/\i < ps.length/\part gw=7:=by
 have hi:i < ps.length:=by have:=(c_.1 hx).1;have:=h.wlen;omega
 have hp:ps[i]?= some ps[i]:=b_ hi;obtain⟨a9,c9,rfl,hc9⟩:=jL h.wrow.1;obtain⟨g,rfl,h2,h3,h4⟩:=hc9 i _ (by have:=dZ (sz:=1) (enc:=jJ) (fun _=>rfl) ps i _ 0 _ hp rfl;rw[Nat.mul_one,Nat.add_zero]at this;exact this);exact⟨_,g,c9,hp,rfl,h3,h4,hi,h.wrow.2 g rfl⟩
theorem bE.ptrL{part:Nat->Nat}{w:World}{B:Nat}{s:aE}{kv wv lv yv vv av:Value}{ps:List Nat}{rows:List (Value×List Nat)}(h:bE part w B s kv wv lv yv vv av ps rows){i j:Nat}{ls:List aO}{l:aO}(hls:s.links[i]?= some ls)(hl:ls[j]?= some l) :
  ∃r q gl lc gr rc,rows[i]?= some r/\r.2[j]?= some q/\lv= .slice (some ⟨gl,0,none⟩) rows.length lc/\r.1= .slice (some ⟨gr,0,none⟩) r.2.length rc/\gl < w.heap.size/\gr < w.heap.size/\w.cell? ⟨gl,i,none⟩=some (.slice (some ⟨gr,0,none⟩) r.2.length rc)/\w.cell? ⟨gr,j,none⟩=some (.pointer (some ⟨q,0,none⟩))/\i < rows.length/\j < r.2.length:=by
 have hi:i < rows.length:=by have:=(c_.1 hls).1;have:=h.llen;omega
 obtain⟨r,hr⟩:∃r,rows[i]?= some r:=⟨_,b_ hi⟩;obtain⟨a9,c9,rfl,hc9⟩:=jL h.lrow.1;obtain⟨g,rfl,h2,h3,h4⟩:=hc9 i _ (by have:=dZ (sz:=1) (enc:=fun r:Value×List Nat=>[r.1]) (fun _=>rfl) rows i _ 0 _ hr rfl;rw[Nat.mul_one,Nat.add_zero]at this;exact this);obtain⟨k1,k2,k3⟩:=h.lat i r ls hr hls;have hj:j < r.2.length:=by have:=(c_.1 hl).1;omega
 obtain⟨q,hq⟩:∃q,r.2[j]?= some q:=⟨_,b_ hj⟩;obtain⟨a8,c8,h8,hc8⟩:=jL k1.1;obtain⟨g',rfl,h2',h3',h4'⟩:=hc8 j _ (by have:=dZ (sz:=1) (enc:=jJ) (fun _=>rfl) r.2 j _ 0 _ hq rfl;rw[Nat.mul_one,Nat.add_zero]at this;exact this);rw[h8]at h4;exact⟨r,q,g,c9,g',c8,hr,hq,rfl,h8,h3,h3',h4,h4',hi,hj⟩
theorem aIo(m:aI){part:Nat->Nat}{w:World}{B:Nat}{s:aE}{kv wv lv yv vv av:Value}{ps:List Nat}{rows:List (Value×List Nat)}(h:bE part w B s kv wv lv yv vv av ps rows)(hn:s.way.length<=1000)
  (i j:Nat) (hi:m.src=(i:Int)) (hj:m.dst=(j:Int)) (ls:List aO) (l:aO) (x:cF) (hls:s.links[i]?= some ls) (hl:ls[j]?= some l) (hx:s.W[i]?= some x) (h9:∀l∈s.links,l.length<=9) (h89:s.W.length<=89) (hall:l.all.length<=100000000) (hsent: -1000000000000<=x.sent/\x.sent<=1000000000000) :
  Calls prog 133 #[.pointer (some ⟨B,0,none⟩),.agg (aG m)] w fun e w'=>e= .returned (.tuple #[])/\∃part' yv',bE part' w' B (aR s m) kv wv lv yv' vv av ps rows/\cI part part' w w':=by
 obtain⟨iM,hiM,hzM0,hzM1,hzM2⟩:=info_parts jS;obtain⟨r,q,gl,lc,gr,rc,hr,hq,hlv,hr1,hgl,hgr,cl,cr,hir,hjr⟩:=h.ptrL hls hl;subst hlv;obtain⟨av',kv',hqb,hqp,har,hkr⟩:=(h.lat i r ls hr hls).2.2 j q l hq hl;obtain⟨aa,ac,haf⟩:=bG har.1;subst haf;obtain⟨Z,hZ⟩:∃Z,w.alloc (Obj.cells (aG m) 124)=Z:=⟨_,rfl⟩;have hbZ:Below w.heap.size w Z:=by rw[<-hZ];exact(e_ _ _).alloc (a_ _) _
 have bM:aD Z w.heap.size 124 (aG m):=by rw[<-hZ];exact aD.new w _ _
 have SZ:Hid (Z.heap.size=w.heap.size+1):=by show _=_;rw[<-hZ];simp
 have bR:=h.box.below hbZ h.box.lt;have bQ:=hqb.below hbZ hqb.lt;have b7:Z.cell? ⟨B,7,none⟩=some (.slice (some ⟨gl,0,none⟩) rows.length lc):=bR.cell (o:=7) rfl;have cl':=(hbZ.cell (p:=⟨gl,i,none⟩) hgl).trans cl;have cr':=(hbZ.cell (p:=⟨gr,j,none⟩) hgr).trans cr;have q0:Z.cell? ⟨q,0,none⟩=some (.slice aa l.all.length ac):=bQ.cell (o:=0) rfl;have m0:Z.cell? ⟨w.heap.size,0,none⟩=some (.int .i64 (i:Int)):=by rw[<-hi];exact bM.cell (o:=0) rfl
 have m1:Z.cell? ⟨w.heap.size,1,none⟩=some (.int .i64 (j:Int)):=by rw[<-hj];exact bM.cell (o:=1) rfl
 have m2:=bM.cell (o:=2) rfl;have f2:=bM.frozen 2;have i1:(0:Int)<=(i:Int):=by omega
 have i2:(i:Int) < (rows.length:Int):=by omega
 have j1:(0:Int)<=(j:Int):=by omega
 have j2:(j:Int) < (r.2.length:Int):=by omega
 have hbl:=h.box.lt;have hql:=hqb.lt;have a1:IntKind.i64.wrap ((l.all.length:Int)+1)=(l.all.length:Int)+1:=IntWalk.i64_in _ (by omega);have HH:=aC h;have HBZ:=aC hbZ;have HBM:=aC bM;have HBQ:=aC bQ;clear h hbZ bM bR bQ cl cr;go_enter func133,ntmps133
 go_upto_region 1 with fail
 go_quiet (fail)
 go_upto_region 3 with fail
 obtain⟨Z1,hZ1⟩:∃Z1,(Z.drewN nq).setCell ⟨w.heap.size,2,none⟩ (.int .i64 ((l.all.length:Int)+1))=Z1:=⟨_,rfl⟩;have hbZ1:Below w.heap.size w Z1:=by rw[<-hZ1];exact(gB HBZ.out nq).setCell (a_ _) _
 have bM1:aD Z1 w.heap.size 124 (aG {m with no:=(l.all.length:Int)+1}):=by rw[<-hZ1];exact(HBM.out.drewN nq).setAt 2 _
 have SZ1:Hid (Z1.heap.size=w.heap.size+1):=by show _=_;rw[<-hZ1];simp[SZ.out]
 have bQ1:=hqb.below hbZ1 hql;have HRA:=aC (mK har.1 hbZ1);have HBM1:=aC bM1;have HBQ1:=aC bQ1;have HBZ1:=aC hbZ1;rw[hZ1];clear hZ1 hZ HBM HBZ HBQ SZ b7 cl' cr' q0 m0 m1 m2 f2;obtain⟨m',hm'⟩:∃m':aI,{m with no:=(l.all.length:Int)+1}=m':=⟨_,rfl⟩;have HM':=aC hm';rw[hm']at HBM1 bM1;have HK':Hid (m'.kind=m.kind):=by show _=_;rw[<-hm']
 have HI':Hid (m'.src=(i:Int)):=by show _=_;rw[<-hm'];exact hi
 clear hm';have q0:=bQ1.cell (o:=0) rfl;have q1:=bQ1.frozen 0;obtain⟨m0,m1,m2,m3,m4,m5,m6,m7,m8,m9,m10,m11,m12,m13,m14⟩:=eF bM1;have hqz:q < Z1.heap.size:=bQ1.lt;have HNE:Hid ((Value.slice aa l.all.length ac).ownBlock≠some q):=bF har.1 hqb (by decide);have HQB:=aC hqb;have HAR:=aC har;have HKR:=aC hkr;clear bM1 bQ1 hbZ1 har hkr hqb a1
 go_cut [31] (fun _ wx=>∃part3,bE part3 wx B {s with links:=s.links.set i (ls.set j {l with all:=l.all++ [m']})} kv wv (.slice (some ⟨gl,0,none⟩) rows.length lc) yv vv av ps rows/\cI part part3 w wx/\aD wx w.heap.size 124 (aG m'))
 case first=>
  go_region_law (refine step_append_lies _ (by rfl) _ _ _ (by rfl) 0 124 iM _ 15 128 underlying68 hiM hzM0 hzM1 hzM2 rfl (by omega) (.slice aa l.all.length ac) l.all.length (l.all.flatMap aK) (by rfl) ((HRA.out.alloc _).drew) ⟨Z1.heap.size,0,none⟩ 1 1 (aK m') (by rfl) (by rfl) (World.news_of_block (cs:=aG m') (t:=124) (fr:=(0,0)) (heap_alloc_new Z1 _)) (by simp[aK,Value.oneCell']) (by omega) (by unfold maxLen;omega) (by omega) (by simp) (Z1.heap.size+1) (by simp) ?_;intro g cp w1 hown1 hgrow hat hlt1;have hbx:aD w1 q 184 (pL (.slice aa l.all.length ac) kv' l):=(hgrow.block q (by simp;have:=SZ1.out;omega) (fun e=>HNE.out e.symm)).trans (HBQ1.out.alloc _);have c0:=hbx.cell (o:=0) rfl;have e0:=hbx.frozen 0)
  all_goals
   go_wp2_with fail
   go_meet
   case rel=>
    have kG:aB (fun g=>(Value.slice aa l.all.length ac).ownBlock=some g\/g=q) w w1:=(((aB.of_below HBZ1.out (fun k h1 h2=>absurd h1 (by omega))).trans (aB.alloc _ Z1 _)).drew).trans (aB.grown hgrow (fun r e=> .inl e));have kS:aB (·= q) w1 (w1.setCell ⟨q,0,none⟩ (.slice (some ⟨g,0,none⟩) (l.all.length+1) cp)):=(aB.refl _ _).setCell (.inl (by rfl)) _;have kB:=kG.trans (kS.mono (fun g _ h=> .inr h));have kA:aB (fun g=>part g=100+10*i+j) w (w1.setCell ⟨q,0,none⟩ (.slice (some ⟨g,0,none⟩) (l.all.length+1) cp)):=kB.mono (fun g _ h=>by
     rcases h with h|h
     ·exact HAR.out.2 g h
     ·rw[h];exact hqp)
    obtain⟨h1,h2⟩:=HH.out.relink (x':={l with all:=l.all++ [m']}) h9 h89 hr hls hq kA ⟨_,kv',hbx.setAt 0 _,.inl ⟨hqp,hql⟩,⟨by
     show World.ownsRow _ _ _ _ _ (l.all++ [m']).length _;rw[List.flatMap_append,f_,List.length_singleton];simpa using aP hown1 kS (fun g' e h=>by subst h;exact bF hown1 hbx (by decide) e) (a_ _),fun g' e=>by
     obtain rfl:g=g':=by simpa[Value.ownBlock]using e
     rcases hat with h|h
     ·exact .inl ⟨HAR.out.2 g h,(HAR.out.1.lt g h).2⟩
     ·exact .inr (by have:=SZ1.out;omega)⟩,⟨aP HKR.out.1 kB (fun g' e h=>by
     rcases h with h|h
     ·exact xP HKR.out.1 HAR.out.1 (by decide) e h
     ·subst h;exact bF HKR.out.1 HQB.out (by decide) e) (a_ _),fun g' e=> .inl ⟨HKR.out.2 g' e,(HKR.out.1.lt g' e).2⟩⟩⟩
    have hbm:aD w1 w.heap.size 124 (aG m'):=(hgrow.block _ (by simp;have:=SZ1.out;omega) (fun e=>by have:=(HAR.out.1.lt _ e.symm).2;omega)).trans (HBM1.out.alloc _);exact⟨_,h1,h2,hbm.kept kS (by omega)⟩
 case rest=>
  obtain⟨part3,h3,hm3,hb3⟩:=hcut
  rename World=>w3
  have HS:Hid (aR s m=cB (if m.kind=2\/m.kind=4 then{s with links:=s.links.set i (ls.set j {l with all:=l.all++ [m']}),W:=s.W.set i {x with sent:=x.sent+1}}else{s with links:=s.links.set i (ls.set j {l with all:=l.all++ [m']})}) m'):=by
   show _=_;rw[<-HM'.out];simp[aR,hi,hj,hls,hl,hx]
  clear HM' HRA HBM1 HBQ1 SZ1 HBZ1 HNE HQB HAR HKR q0 q1 m0 m1 m2 m3 m4 m5 m6 m7 m8 m9 m10 m11 m12 m13 m14 hqz;have mk:w3.cell? ⟨w.heap.size,3,none⟩=some (.int .i64 m'.kind):=hb3.cell (o:=3) rfl;have HM3:=aC hm3;have HB3:=aC hb3;rw[<-HK'.out]at HS;clear hm3 hb3 HK';by_cases hw:m'.kind=2\/m'.kind=4
  ·rw[if_pos hw]at HS
   obtain⟨p,gw,wc,hp,hwv,hgw,cw,hip,-⟩:=h3.ptrW (i:=i) (x:=x) hx;subst hwv;obtain⟨tv,hpb,hpp,htr⟩:=h3.wat i p x hp hx;have b6:w3.cell? ⟨B,6,none⟩=some (.slice (some ⟨gw,0,none⟩) ps.length wc):=h3.box.cell (o:=6) rfl;have p2:w3.cell? ⟨p,2,none⟩=some (.int .i64 x.sent):=hpb.cell (o:=2) rfl;have g2:=hpb.frozen 2;have m0:w3.cell? ⟨w.heap.size,0,none⟩=some (.int .i64 (i:Int)):=by rw[<-HI'.out];exact HB3.out.cell (o:=0) rfl
   have i3:(i:Int) < (ps.length:Int):=by omega
   have a2:IntKind.i64.wrap (x.sent+1)=x.sent+1:=IntWalk.i64_in _ (by omega);have HH3:=aC h3;have HPB:=aC hpb;clear h3 hpb;rcases hw with hw|hw
   all_goals
    rw[hw]at mk;clear hw
    go_upto_region 5 with fail
    go_region
    obtain⟨W5,hW5⟩:∃W5,(w3.setCell ⟨p,2,none⟩ (.int .i64 (x.sent+1))).drew=W5:=⟨_,rfl⟩;have k5:aB (·= p) w3 W5:=by rw[<-hW5];exact((aB.refl _ _).setCell (.inl (by rfl)) _).drew
    have bp5:aD W5 p 180 (fB tv {x with sent:=x.sent+1}):=by rw[<-hW5];exact HPB.out.setAt 2 _
    obtain⟨h5,hm5⟩:=HH3.out.reworker (x':={x with sent:=x.sent+1}) (by have:=(c_.1 hx).1;omega) hp (k5.mono (fun g _ e=>by rw[e];exact hpp)) ⟨tv,bp5,.inl ⟨hpp,HPB.out.lt⟩,aP htr.1 k5 (fun g e h=>by subst h;exact bF htr.1 HPB.out (by decide) e) (a_ _),fun g e=> .inl ⟨htr.2 g e,(htr.1.lt g e).2⟩⟩;have HB5:Hid (aD W5 w.heap.size 124 (aG m')):=HB3.out.kept k5 (HB3.out.ne HPB.out (by decide));have HP:Hid (Calls prog 136 #[.pointer (some ⟨B,0,none⟩),.agg (aG m')] W5 _):=pN m' h5 hn;have HM5:=aC (HM3.out.trans hm5);rw[hW5];clear hW5 k5 bp5 h5 hm5 htr mk b6 p2 g2 m0 cw HH3 HPB HB3 HM3;obtain⟨m0,m1,m2,m3,m4,m5,m6,m7,m8,m9,m10,m11,m12,m13,m14⟩:=eF HB5.out
    go_wp2_with (go_at_call 136;refine HP.out.mono ?_;rintro e w6 ⟨rfl,part6,yv6,h6,hm6⟩)
    go_end0
    rw[HS.out];exact⟨rfl,_,_,h6,HM5.out.trans hm6⟩
  ·rw[if_neg hw]at HS
   clear mk;have k2:(m'.kind==2)=false:=by rw[g_];omega
   have k4:(m'.kind==4)=false:=by rw[g_];omega
   clear hw;have HP:Hid (Calls prog 136 #[.pointer (some ⟨B,0,none⟩),.agg (aG m')] w3 _):=pN m' h3 hn;clear h3;obtain⟨m0,m1,m2,m3,m4,m5,m6,m7,m8,m9,m10,m11,m12,m13,m14⟩:=eF HB3.out
   go_wp2_with (go_at_call 136;refine HP.out.mono ?_;rintro e w6 ⟨rfl,part6,yv6,h6,hm6⟩)
   go_end0
   rw[HS.out];exact⟨rfl,_,_,h6,HM3.out.trans hm6⟩
end Go.Proofs.YtfanaanofjhlkaaGreatDoor
