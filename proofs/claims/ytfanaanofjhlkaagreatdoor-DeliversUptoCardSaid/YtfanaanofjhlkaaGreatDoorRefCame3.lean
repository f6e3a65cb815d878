import Derived.Test.YtfanaanofjhlkaaGreatDoorRefWork3
set_option maxHeartbeats 16000000
set_option maxRecDepth 100000
namespace Go.Proofs.YtfanaanofjhlkaaGreatDoor
open Go Go.RowKit Tryz
def dA(s:aE)(sent came:Int)(idle:Bool):aE:=
 match s.answers.getLast? with
 |none=>s
 |some a=>{s with answers:=s.answers.dropLast++ [⟨a.many+1,a.sent+sent,a.came+came,a.idle&&idle⟩]}
def aX(s:aE)(m:aI):aE:=
 let i:=m.dst.toNat
 let x:=s.W[i]?.getD cR
 if m.kind=1 then
  match x.tasks with
  |[]=>aR s {aH with src:=m.dst,dst:=m.src,kind:=3}
  |t :: r=>aR {s with W:=s.W.set i {x with tasks:=r}} {aH with src:=m.dst,dst:=m.src,kind:=2,t:=t}
 else if m.kind=2 then{s with W:=s.W.set i {x with came:=x.came+1,black:=true,asked:=false,tasks:=x.tasks++ [m.t]}}
 else if m.kind=3 then{s with W:=s.W.set i {x with asked:=false}}
 else if m.kind=4 then{s with W:=s.W.set i {x with came:=x.came+1,black:=true},values:=cP s.values m.v}
 else if m.kind=5 then{s with W:=s.W.set i {x with has:=true,token:=m},around:=s.around||m.dst==0}
 else if m.kind=6 then aR s {aH with src:=m.dst,dst:=0,kind:=7,round:=m.round,sent:=x.sent,came:=x.came,idle:=x.tasks.isEmpty}
 else if m.kind=7 then dA s m.sent m.came m.idle
 else s
theorem bE.recells{part:Nat->Nat}{w w':World}{B:Nat}{s:aE}{kv wv lv yv vv av:Value}{ps:List Nat}{rows:List (Value×List Nat)}{i p:Nat}{x x':cF}{tv:Value}(h:bE part w B s kv wv lv yv vv av ps rows)(hi:i < 90)(hp:ps[i]?= some p)(hpb:aD w p 180 (fB tv x))(hpp:part p=10+i)(htr:cO (fun b=>part b=10+i) 62 3 aJ w tv x.tasks)
  (k:aB (·= p) w w') (hb:aD w' p 180 (fB tv x')) (ht:x'.tasks=x.tasks) :
  bE (ext w part (10+i)) w' B {s with W:=s.W.set i x'} kv wv lv yv vv av ps rows/\cI part (ext w part (10+i)) w w':=
 h.reworker hi hp (k.mono (fun g _ e=>by rw[e];exact hpp)) ⟨tv,hb,.inl ⟨hpp,hpb.lt⟩,by rw[ht];exact aP htr.1 k (fun g e h=>by subst h;exact bF htr.1 hpb (by decide) e) (a_ _),fun g e=> .inl ⟨htr.2 g e,(htr.1.lt g e).2⟩⟩
theorem aDf(m:aI){part:Nat->Nat}{w:World}{B:Nat}{s:aE}{kv wv lv yv vv av:Value}{ps:List Nat}{rows:List (Value×List Nat)}(h:bE part w B s kv wv lv yv vv av ps rows)(hs:cX s)(h1:0<=m.dst/\m.dst < s.workers)(hkd:m.kind=3) :
  Calls prog 137 #[.pointer (some ⟨B,0,none⟩),.agg (aG m)] w fun e w'=>e= .returned (.tuple #[])/\∃part' yv' vv' av',bE part' w' B (aX s m) kv wv lv yv' vv' av' ps rows/\cI part part' w w':=by
 obtain⟨i,x,hi,hx,hi5⟩:=hs.worker h1.1 h1.2;obtain⟨p,gw,wc,hp,hwv,hgw,cw,hip,-⟩:=h.ptrW hx;subst hwv;obtain⟨tv,hpb,hpp,htr⟩:=h.wat i p x hp hx;obtain⟨ta,tc,htf⟩:=bG htr.1;subst htf;obtain⟨Z,hZ⟩:∃Z,w.alloc (Obj.cells (aG m) 124)=Z:=⟨_,rfl⟩;have hbZ:Below w.heap.size w Z:=by rw[<-hZ];exact(e_ _ _).alloc (a_ _) _
 have bM:aD Z w.heap.size 124 (aG m):=by rw[<-hZ];exact aD.new w _ _
 have SZ:Hid (Z.heap.size=w.heap.size+1):=by show _=_;rw[<-hZ];simp
 have bR:=h.box.below hbZ h.box.lt;have bP:=hpb.below hbZ hpb.lt;have b6:Z.cell? ⟨B,6,none⟩=some (.slice (some ⟨gw,0,none⟩) ps.length wc):=bR.cell (o:=6) rfl;have cw':=(hbZ.cell (p:=⟨gw,i,none⟩) hgw).trans cw;have m1:Z.cell? ⟨w.heap.size,1,none⟩=some (.int .i64 (i:Int)):=by rw[<-hi];exact bM.cell (o:=1) rfl
 have m3:Z.cell? ⟨w.heap.size,3,none⟩=some (.int .i64 3):=by rw[<-hkd];exact bM.cell (o:=3) rfl
 have i1:(0:Int)<=(i:Int):=by omega
 have i2:(i:Int) < (ps.length:Int):=by omega
 have hbl:=h.box.lt;have hpl:=hpb.lt;have kZ:aB (fun _=>False) w Z:=aB.of_below hbZ (fun k h1 h2=>by omega);have HS:Hid (aX s m={s with W:=s.W.set i {x with asked:=false}}):=by show _=_;simp[aX,hkd,hi,hx]
 have HH:=aC h;have HBZ:=aC hbZ;have HKZ:=aC kZ;have HBM:=aC bM;have HPB:=aC hpb;have HBP:=aC bP;have HTR:=aC htr;have HP:=aC hp;have HI:=aC hi;have p1:=bP.cell (o:=1) rfl;have g1:=bP.frozen 1;clear h hbZ bR cw kZ bM hpb bP htr hp hi hkd;go_enter func137,ntmps137
 go_upto_region 1 with fail
 go_quiet (fail)
 go_wp2_with fail
 go_end0
 rw[HS.out];have k5:aB (·= p) w ((Z.drewN nq).setCell ⟨p,1,none⟩ (.bool false)):=(HKZ.out.mono (fun _ _ h=>h.elim)).trans ((((aB.refl (·= p) Z).drewN nq)).setCell (.inl (by rfl)) _);obtain⟨h5,hm5⟩:=HH.out.recells (x':={x with asked:=false}) (by omega) HP.out HPB.out hpp HTR.out k5 ((HBP.out.drewN nq).setAt 1 _) rfl;exact⟨rfl,_,_,_,_,h5,hm5⟩
theorem aCe(m:aI){part:Nat->Nat}{w:World}{B:Nat}{s:aE}{kv wv lv yv vv av:Value}{ps:List Nat}{rows:List (Value×List Nat)}(h:bE part w B s kv wv lv yv vv av ps rows)(hs:cX s)(h1:0<=m.dst/\m.dst < s.workers)(hkd:m.kind=5) :
  Calls prog 137 #[.pointer (some ⟨B,0,none⟩),.agg (aG m)] w fun e w'=>e= .returned (.tuple #[])/\∃part' yv' vv' av',bE part' w' B (aX s m) kv wv lv yv' vv' av' ps rows/\cI part part' w w':=by
 obtain⟨i,x,hi,hx,hi5⟩:=hs.worker h1.1 h1.2;obtain⟨p,gw,wc,hp,hwv,hgw,cw,hip,-⟩:=h.ptrW hx;subst hwv;obtain⟨tv,hpb,hpp,htr⟩:=h.wat i p x hp hx;obtain⟨ta,tc,htf⟩:=bG htr.1;subst htf;obtain⟨Z,hZ⟩:∃Z,w.alloc (Obj.cells (aG m) 124)=Z:=⟨_,rfl⟩;have hbZ:Below w.heap.size w Z:=by rw[<-hZ];exact(e_ _ _).alloc (a_ _) _
 have bM:aD Z w.heap.size 124 (aG m):=by rw[<-hZ];exact aD.new w _ _
 have SZ:Hid (Z.heap.size=w.heap.size+1):=by show _=_;rw[<-hZ];simp
 have bR:=h.box.below hbZ h.box.lt;have bP:=hpb.below hbZ hpb.lt;have b6:Z.cell? ⟨B,6,none⟩=some (.slice (some ⟨gw,0,none⟩) ps.length wc):=bR.cell (o:=6) rfl;have cw':=(hbZ.cell (p:=⟨gw,i,none⟩) hgw).trans cw;have m1:Z.cell? ⟨w.heap.size,1,none⟩=some (.int .i64 (i:Int)):=by rw[<-hi];exact bM.cell (o:=1) rfl
 have m3:Z.cell? ⟨w.heap.size,3,none⟩=some (.int .i64 5):=by rw[<-hkd];exact bM.cell (o:=3) rfl
 have i1:(0:Int)<=(i:Int):=by omega
 have i2:(i:Int) < (ps.length:Int):=by omega
 have hbl:=h.box.lt;have hpl:=hpb.lt;have kZ:aB (fun _=>False) w Z:=aB.of_below hbZ (fun k h1 h2=>by omega);have HS:Hid (aX s m={s with W:=s.W.set i {x with has:=true,token:=m},around:=s.around||((i:Int)==0)}):=by show _=_;simp[aX,hkd,hi,hx]
 have HH:=aC h;have HBZ:=aC hbZ;have HKZ:=aC kZ;have HBM:=aC bM;have HPB:=aC hpb;have HBP:=aC bP;have HTR:=aC htr;have HP:=aC hp;have HI:=aC hi;have m0:=bM.cell (o:=0) rfl;have m2:=bM.cell (o:=2) rfl;have m4:=bM.cell (o:=4) rfl;have m5:=bM.cell (o:=5) rfl;have m6:=bM.cell (o:=6) rfl;have m7:=bM.cell (o:=7) rfl;have m8:=bM.cell (o:=8) rfl;have m9:=bM.cell (o:=9) rfl;have m10:=bM.cell (o:=10) rfl;have m11:=bM.cell (o:=11) rfl;have m12:=bM.cell (o:=12) rfl;have m13:=bM.cell (o:=13) rfl;have m14:=bM.cell (o:=14) rfl;have q5:=bP.cell (o:=5) rfl;have f5:=bP.frozen;have q6:=bP.cell (o:=6) rfl;have q7:=bP.cell (o:=7) rfl;have q8:=bP.cell (o:=8) rfl;have q9:=bP.cell (o:=9) rfl;have q10:=bP.cell (o:=10) rfl;have q11:=bP.cell (o:=11) rfl;have q12:=bP.cell (o:=12) rfl;have q13:=bP.cell (o:=13) rfl;have q14:=bP.cell (o:=14) rfl;have q15:=bP.cell (o:=15) rfl;have q16:=bP.cell (o:=16) rfl;have q17:=bP.cell (o:=17) rfl;have q18:=bP.cell (o:=18) rfl;have q19:=bP.cell (o:=19) rfl;have q20:=bP.cell (o:=20) rfl;have HMM:Hid (({m with dst:=(i:Int),kind:=5}:aI)=m):=by show _=_;rw[<-hi,<-hkd]
 have HRB:=aC bR;clear h hbZ bR cw kZ bM hpb bP htr hp hi hkd;go_enter func137,ntmps137
 go_upto_region 1 with fail
 go_quiet (fail)
 go_upto_region 22 with fail
 obtain⟨W5,hW5⟩:∃W5,dR (Z.drewN nq) p 5 [.bool true,.int .i64 m.src,.int .i64 (i:Int),.int .i64 m.no,.int .i64 5,.string m.t.id,.int .i64 m.t.kind,.int .i64 m.t.arg,.string m.v.1,.int .i64 m.v.2,.bool m.black,.bool m.idle,.int .i64 m.count,.int .i64 m.round,.int .i64 m.sent,.int .i64 m.came]=W5:=⟨_,rfl⟩;have kP:aB (·= p) (Z.drewN nq) W5:=by rw[<-hW5];exact jC (X:=fun x=>x=p) (.inl rfl) _ _ _ (aB.refl _ _)
 have k5:aB (·= p) w W5:=((HKZ.out.mono (fun _ _ h=>h.elim)).drewN nq).trans kP;have bp5:aD W5 p 180 (fB (.slice ta x.tasks.length tc) {x with has:=true,token:={m with dst:=(i:Int),kind:=5}}):=by
  obtain⟨cs',h1,h2⟩:=tL [.bool true,.int .i64 m.src,.int .i64 (i:Int),.int .i64 m.no,.int .i64 5,.string m.t.id,.int .i64 m.t.kind,.int .i64 m.t.arg,.string m.v.1,.int .i64 m.v.2,.bool m.black,.bool m.idle,.int .i64 m.count,.int .i64 m.round,.int .i64 m.sent,.int .i64 m.came] 5 (Z.drewN nq) _ (HBP.out.drewN nq);rw[hW5]at h1;have h3:cs'=fB (.slice ta x.tasks.length tc) {x with has:=true,token:={m with dst:=(i:Int),kind:=5}}:=by
   apply Array.toList_inj.1;rw[h2];rfl
  rw[<-h3];exact h1
 rw[HMM.out]at bp5;obtain⟨h5,hm5⟩:=HH.out.recells (x':={x with has:=true,token:=m}) (by omega) HP.out HPB.out hpp HTR.out k5 bp5 rfl;have b5:aD W5 B 141 (gK {s with W:=s.W.set i {x with has:=true,token:=m}} kv (.slice (some ⟨gw,0,none⟩) ps.length wc) lv yv vv av):=h5.box;have c12:W5.cell? ⟨B,12,none⟩=some (.bool s.around):=b5.cell (o:=12) rfl;have f12:=b5.frozen 12;have c1:W5.cell? ⟨w.heap.size,1,none⟩=some (.int .i64 (i:Int)):=by rw[<-HI.out];exact((HBM.out.drewN nq).kept kP (by omega)).cell (o:=1) rfl
 have HH5:=aC h5;have HM5:=aC hm5;have HB5:=aC b5;dsimp only[dR]at hW5;rw[hW5];clear hW5 kP k5 bp5 h5 hm5 b5 m0 m1 m2 m3 m4 m5 m6 m7 m8 m9 m10 m11 m12 m13 m14 q5 f5 q6 q7 q8 q9 q10 q11 q12 q13 q14 q15 q16 q17 q18 q19 q20 b6 cw';obtain⟨ar,har⟩:∃ar,s.around=ar:=⟨_,rfl⟩;have HAR:=aC har;rw[har]at c12;clear har;have key:∀b,b=(ar||((i:Int)==0))->∃part' yv' vv' av',bE part' (W5.setCell ⟨B,12,none⟩ (.bool b)) B (aX s m) kv (.slice (some ⟨gw,0,none⟩) ps.length wc) lv yv' vv' av' ps rows/\cI part part' w (W5.setCell ⟨B,12,none⟩ (.bool b)):=fun b hb=>by
  have kS:aB (·= B) W5 (W5.setCell ⟨B,12,none⟩ (.bool b)):=(aB.refl _ _).setCell (.inl (by rfl)) _;obtain⟨h6,hm6⟩:=HH5.out.flags (ar:=b) (ov:=s.over) (dn:=s.done) kS (HB5.out.setAt 12 _);rw[HS.out,HAR.out,<-hb];exact⟨_,_,_,_,h6,HM5.out.trans hm6⟩
 have HKEY:=aC key;clear key;cases ar with
 |true=>
  go_wp2_with fail
  go_end0
  exact⟨rfl,HKEY.out true (by simp)⟩
 |false=>
  by_cases hi0:i=0
  ·subst hi0
   go_wp2_with fail
   go_end0
   exact⟨rfl,HKEY.out true (by simp)⟩
  ·have hib:((i:Int)==0)=false:=by rw[g_];omega
   go_wp2_with fail
   go_end0
   exact⟨rfl,HKEY.out false (by simp[hib])⟩
theorem aCg(m:aI){N:Nat}{part:Nat->Nat}{w:World}{B:Nat}{s:aE}{kv wv lv yv vv av:Value}{ps:List Nat}{rows:List (Value×List Nat)}(h:bE part w B s kv wv lv yv vv av ps rows)(hs:cX s)(hN:dS N s)(hN':N<=90000000)(h1:0<=m.dst/\m.dst < s.workers)(htk:∀x∈s.W,x.tasks.length<=100000000)(hkd:m.kind=2) :
  Calls prog 137 #[.pointer (some ⟨B,0,none⟩),.agg (aG m)] w fun e w'=>e= .returned (.tuple #[])/\∃part' yv' vv' av',bE part' w' B (aX s m) kv wv lv yv' vv' av' ps rows/\cI part part' w w':=by
 obtain⟨i,x,hi,hx,hi5⟩:=hs.worker h1.1 h1.2;obtain⟨p,gw,wc,hp,hwv,hgw,cw,hip,-⟩:=h.ptrW hx;subst hwv;obtain⟨tv,hpb,hpp,htr⟩:=h.wat i p x hp hx;obtain⟨ta,tc,htf⟩:=bG htr.1;subst htf;obtain⟨Z,hZ⟩:∃Z,w.alloc (Obj.cells (aG m) 124)=Z:=⟨_,rfl⟩;have hbZ:Below w.heap.size w Z:=by rw[<-hZ];exact(e_ _ _).alloc (a_ _) _
 have bM:aD Z w.heap.size 124 (aG m):=by rw[<-hZ];exact aD.new w _ _
 have SZ:Hid (Z.heap.size=w.heap.size+1):=by show _=_;rw[<-hZ];simp
 have bR:=h.box.below hbZ h.box.lt;have bP:=hpb.below hbZ hpb.lt;have b6:Z.cell? ⟨B,6,none⟩=some (.slice (some ⟨gw,0,none⟩) ps.length wc):=bR.cell (o:=6) rfl;have cw':=(hbZ.cell (p:=⟨gw,i,none⟩) hgw).trans cw;have m1:Z.cell? ⟨w.heap.size,1,none⟩=some (.int .i64 (i:Int)):=by rw[<-hi];exact bM.cell (o:=1) rfl
 have m3:Z.cell? ⟨w.heap.size,3,none⟩=some (.int .i64 2):=by rw[<-hkd];exact bM.cell (o:=3) rfl
 have i1:(0:Int)<=(i:Int):=by omega
 have i2:(i:Int) < (ps.length:Int):=by omega
 have hbl:=h.box.lt;have hpl:=hpb.lt;have kZ:aB (fun _=>False) w Z:=aB.of_below hbZ (fun k h1 h2=>by omega);have HS:Hid (aX s m={s with W:=s.W.set i {x with came:=x.came+1,black:=true,asked:=false,tasks:=x.tasks++ [m.t]}}):=by show _=_;simp[aX,hkd,hi,hx]
 have HH:=aC h;have HBZ:=aC hbZ;have HKZ:=aC kZ;have HBM:=aC bM;have HPB:=aC hpb;have HBP:=aC bP;have HTR:=aC htr;have HP:=aC hp;have HI:=aC hi;obtain⟨iT,hiT,hzT0,hzT1,hzT2⟩:=info_parts jU;have q1:=bP.cell (o:=1) rfl;have q3:=bP.cell (o:=3) rfl;have q4:=bP.cell (o:=4) rfl;have f5:=bP.frozen;have hgot:=hN.got x (d_ hx);have a1:IntKind.i64.wrap (x.came+1)=x.came+1:=IntWalk.i64_in _ (by omega);have htl:=htk x (d_ hx);clear hN hgot hs htk;clear h hbZ bR cw kZ bM hpb bP htr hp hi hkd;go_enter func137,ntmps137
 go_upto_region 1 with fail
 go_quiet (fail)
 go_upto_region 14 with fail
 obtain⟨W4,hW4⟩:∃W4,(((Z.drewN nq).setCell ⟨p,3,none⟩ (.int .i64 (x.came+1))).setCell ⟨p,4,none⟩ (.bool true)).setCell ⟨p,1,none⟩ (.bool false)=W4:=⟨_,rfl⟩;have kP:aB (·= p) (Z.drewN nq) W4:=by rw[<-hW4];exact(((aB.refl _ _).setCell (.inl (by rfl)) _).setCell (.inl (by rfl)) _).setCell (.inl (by rfl)) _
 have k4:aB (·= p) w W4:=((HKZ.out.mono (fun _ _ h=>h.elim)).drewN nq).trans kP;have bp4:aD W4 p 180 (fB (.slice ta x.tasks.length tc) {x with came:=x.came+1,black:=true,asked:=false}):=by rw[<-hW4];exact(((HBP.out.drewN nq).setAt 3 _).setAt 4 _).setAt 1 _
 have bm4:aD W4 w.heap.size 124 (aG m):=(HBM.out.drewN nq).kept kP (by omega);have HRT:Hid (W4.ownsRow 0 62 3 (.slice ta x.tasks.length tc) x.tasks.length (x.tasks.flatMap aJ)):=aP HTR.out.1 k4 (fun g e h=>by subst h;exact bF HTR.out.1 HPB.out (by decide) e) (a_ _);have SZ4:Hid (W4.heap.size=w.heap.size+1):=by show _=_;rw[<-hW4];simp[SZ.out]
 have HNE:Hid ((Value.slice ta x.tasks.length tc).ownBlock≠some p):=bF HTR.out.1 HPB.out (by decide);have hpz:p < W4.heap.size:=bp4.lt;have HK4:=aC k4;have HBP4:=aC bp4;rw[hW4];clear hW4 kP k4 m1 m3 q1 q3 q4 f5 b6 cw';have p0:=bp4.cell (o:=0) rfl;have f0:=bp4.frozen 0;have m4:=bm4.cell (o:=4) rfl;have m5:=bm4.cell (o:=5) rfl;have m6:=bm4.cell (o:=6) rfl;clear bp4 bm4
 go_region_law (refine step_append_lies _ (by rfl) _ _ _ (by rfl) 0 62 iT _ 3 32 underlying58 hiT hzT0 hzT1 hzT2 rfl (by omega) (.slice ta x.tasks.length tc) x.tasks.length (x.tasks.flatMap aJ) (by rfl) ((HRT.out.alloc _).drew) ⟨W4.heap.size,0,none⟩ 1 1 (aJ m.t) (by rfl) (by rfl) (World.news_of_block (cs:=#[.string m.t.id,.int .i64 m.t.kind,.int .i64 m.t.arg]) (t:=62) (fr:=(0,0)) (heap_alloc_new W4 _)) (by simp[aJ,Value.oneCell']) (by omega) (by unfold maxLen;omega) (by omega) (by simp) (W4.heap.size+1) (by simp) ?_;intro g cp w1 hown1 hgrow hat hlt1;have hbx:aD w1 p 180 (fB (.slice ta x.tasks.length tc) {x with came:=x.came+1,black:=true,asked:=false}):=(hgrow.block p (by simp;have:=SZ4.out;omega) (fun e=>HNE.out e.symm)).trans (HBP4.out.alloc _);have c0:=hbx.cell (o:=0) rfl;have e0:=hbx.frozen 0)
 all_goals
  go_wp2_with fail
  go_end0
  rw[HS.out];have kG:aB (fun g=>part g=10+i) w w1:=(((HK4.out.mono (fun g _ e=>by rw[e];exact hpp)).trans (aB.alloc _ W4 _)).drew).trans (aB.grown hgrow (fun r e=>HTR.out.2 r e));have kS:aB (·= p) w1 (w1.setCell ⟨p,0,none⟩ (.slice (some ⟨g,0,none⟩) (x.tasks.length+1) cp)):=(aB.refl _ _).setCell (.inl (by rfl)) _;obtain⟨h5,hm5⟩:=HH.out.reworker (x':={x with came:=x.came+1,black:=true,asked:=false,tasks:=x.tasks++ [m.t]}) (by omega) HP.out (kG.trans (kS.mono (fun g _ e=>by rw[e];exact hpp))) ⟨_,hbx.setAt 0 _,.inl ⟨hpp,hpl⟩,by
   show World.ownsRow _ _ _ _ _ (x.tasks++ [m.t]).length _;rw[List.flatMap_append,f_,List.length_singleton];simpa using aP hown1 kS (fun g' e h=>by subst h;exact bF hown1 hbx (by decide) e) (a_ _),fun g' e=>by
   obtain rfl:g=g':=by simpa[Value.ownBlock]using e
   rcases hat with h|h
   ·exact .inl ⟨HTR.out.2 g h,(HTR.out.1.lt g h).2⟩
   ·exact .inr (by have:=SZ4.out;omega)⟩
  exact⟨rfl,_,_,_,_,h5,hm5⟩
theorem aCb(m:aI){N:Nat}{part:Nat->Nat}{w:World}{B:Nat}{s:aE}{kv wv lv yv vv av:Value}{ps:List Nat}{rows:List (Value×List Nat)}(h:bE part w B s kv wv lv yv vv av ps rows)(hs:cX s)(hN:dS N s)(hN':N<=90000000)(h0:0<=m.src/\m.src < s.workers)(h1:0<=m.dst/\m.dst < s.workers)(htk:∀x,s.W[m.dst.toNat]?= some x->x.tasks=[])(hkd:m.kind=1) :
  Calls prog 137 #[.pointer (some ⟨B,0,none⟩),.agg (aG m)] w fun e w'=>e= .returned (.tuple #[])/\∃part' yv' vv' av',bE part' w' B (aX s m) kv wv lv yv' vv' av' ps rows/\cI part part' w w':=by
 obtain⟨i,x,hi,hx,hi5⟩:=hs.worker h1.1 h1.2;have ht:x.tasks=[]:=htk x (by rw[hi];simpa using hx);obtain⟨p,gw,wc,hp,hwv,hgw,cw,hip,-⟩:=h.ptrW hx;subst hwv;obtain⟨tv,hpb,hpp,htr⟩:=h.wat i p x hp hx;obtain⟨ta,tc,htf⟩:=bG htr.1;subst htf;obtain⟨Z,hZ⟩:∃Z,w.alloc (Obj.cells (aG m) 124)=Z:=⟨_,rfl⟩;have hbZ:Below w.heap.size w Z:=by rw[<-hZ];exact(e_ _ _).alloc (a_ _) _
 have bM:aD Z w.heap.size 124 (aG m):=by rw[<-hZ];exact aD.new w _ _
 have SZ:Hid (Z.heap.size=w.heap.size+1):=by show _=_;rw[<-hZ];simp
 have bR:=h.box.below hbZ h.box.lt;have bP:=hpb.below hbZ hpb.lt;have b6:Z.cell? ⟨B,6,none⟩=some (.slice (some ⟨gw,0,none⟩) ps.length wc):=bR.cell (o:=6) rfl;have cw':=(hbZ.cell (p:=⟨gw,i,none⟩) hgw).trans cw;have m1:Z.cell? ⟨w.heap.size,1,none⟩=some (.int .i64 (i:Int)):=by rw[<-hi];exact bM.cell (o:=1) rfl
 have m3:Z.cell? ⟨w.heap.size,3,none⟩=some (.int .i64 1):=by rw[<-hkd];exact bM.cell (o:=3) rfl
 have i1:(0:Int)<=(i:Int):=by omega
 have i2:(i:Int) < (ps.length:Int):=by omega
 have hbl:=h.box.lt;have hpl:=hpb.lt;have kZ:aB (fun _=>False) w Z:=aB.of_below hbZ (fun k h1 h2=>by omega);have HS:Hid (aX s m=aR s {aH with src:=(i:Int),dst:=m.src,kind:=3}):=by show _=_;simp[aX,hkd,hi,hx,ht]
 have HH:=aC h;have HBZ:=aC hbZ;have HKZ:=aC kZ;have HBM:=aC bM;have HPB:=aC hpb;have HBP:=aC bP;have HTR:=aC htr;have HP:=aC hp;have HI:=aC hi;have p0:Z.cell? ⟨p,0,none⟩=some (.slice ta x.tasks.length tc):=bP.cell (o:=0) rfl;rw[show x.tasks.length=0 by rw[ht];rfl]at p0;have m0:=bM.cell (o:=0) rfl;obtain⟨h9,hm9⟩:=h.later hbZ;have HSND:Hid (∀nq,Calls prog 133 #[.pointer (some ⟨B,0,none⟩),.agg (aG {aH with src:=(i:Int),dst:=m.src,kind:=3})] (Z.drewN nq) fun e w'=>e= .returned (.tuple #[])/\∃part' yv',bE part' w' B (aR s {aH with src:=(i:Int),dst:=m.src,kind:=3}) kv (.slice (some ⟨gw,0,none⟩) ps.length wc) lv yv' vv av ps rows/\cI part part' w w'):=fun nq=>by
  obtain⟨h8,hm8⟩:=h9.later (gB (e_ _ Z) nq);refine(nA {aH with src:=(i:Int),dst:=m.src,kind:=3} h8 hs hN (by omega) (by rw[<-hi];exact h1) h0).mono ?_;rintro e w' ⟨rfl,part',yv',h2,hm2⟩;exact⟨rfl,part',yv',h2,(hm9.trans hm8).trans hm2⟩
 clear h9 hm9 hs hN htk ht;clear h hbZ bR cw kZ bM hpb bP htr hp hi hkd;go_enter func137,ntmps137
 go_upto_region 1 with fail
 go_quiet (fail)
 go_wp2_with (go_at_call 133;refine(HSND.out _).mono ?_;rintro e w2 ⟨rfl,part2,yv2,h2,hm2⟩)
 (try simp only[Exit.inBlock,Exit.then])
 refine bodyPost_ret (results_none rfl _ _ _) rfl ?_;rw[HS.out];exact⟨rfl,_,_,_,_,h2,hm2⟩
theorem aBk(m:aI){N:Nat}{part:Nat->Nat}{w:World}{B:Nat}{s:aE}{kv wv lv yv vv av:Value}{ps:List Nat}{rows:List (Value×List Nat)}(h:bE part w B s kv wv lv yv vv av ps rows)(hs:cX s)(hN:dS N s)(hN':N<=90000000)(h1:0<=m.dst/\m.dst < s.workers)(hv:s.values.length<=90000000)(hkd:m.kind=4) :
  Calls prog 137 #[.pointer (some ⟨B,0,none⟩),.agg (aG m)] w fun e w'=>e= .returned (.tuple #[])/\∃part' yv' vv' av',bE part' w' B (aX s m) kv wv lv yv' vv' av' ps rows/\cI part part' w w':=by
 obtain⟨i,x,hi,hx,hi5⟩:=hs.worker h1.1 h1.2;obtain⟨p,gw,wc,hp,hwv,hgw,cw,hip,-⟩:=h.ptrW hx;subst hwv;obtain⟨tv,hpb,hpp,htr⟩:=h.wat i p x hp hx;obtain⟨ta,tc,htf⟩:=bG htr.1;subst htf;obtain⟨Z,hZ⟩:∃Z,w.alloc (Obj.cells (aG m) 124)=Z:=⟨_,rfl⟩;have hbZ:Below w.heap.size w Z:=by rw[<-hZ];exact(e_ _ _).alloc (a_ _) _
 have bM:aD Z w.heap.size 124 (aG m):=by rw[<-hZ];exact aD.new w _ _
 have SZ:Hid (Z.heap.size=w.heap.size+1):=by show _=_;rw[<-hZ];simp
 have bR:=h.box.below hbZ h.box.lt;have bP:=hpb.below hbZ hpb.lt;have b6:Z.cell? ⟨B,6,none⟩=some (.slice (some ⟨gw,0,none⟩) ps.length wc):=bR.cell (o:=6) rfl;have cw':=(hbZ.cell (p:=⟨gw,i,none⟩) hgw).trans cw;have m1:Z.cell? ⟨w.heap.size,1,none⟩=some (.int .i64 (i:Int)):=by rw[<-hi];exact bM.cell (o:=1) rfl
 have m3:Z.cell? ⟨w.heap.size,3,none⟩=some (.int .i64 4):=by rw[<-hkd];exact bM.cell (o:=3) rfl
 have i1:(0:Int)<=(i:Int):=by omega
 have i2:(i:Int) < (ps.length:Int):=by omega
 have hbl:=h.box.lt;have hpl:=hpb.lt;have kZ:aB (fun _=>False) w Z:=aB.of_below hbZ (fun k h1 h2=>by omega);have HS:Hid (aX s m={s with W:=s.W.set i {x with came:=x.came+1,black:=true},values:=cP s.values m.v}):=by show _=_;simp[aX,hkd,hi,hx]
 have HH:=aC h;have HBZ:=aC hbZ;have HKZ:=aC kZ;have HBM:=aC bM;have HPB:=aC hpb;have HBP:=aC bP;have HTR:=aC htr;have HP:=aC hp;have HI:=aC hi;obtain⟨va,vc,hvf⟩:=bG h.vrow.1;subst hvf;have q3:=bP.cell (o:=3) rfl;have q4:=bP.cell (o:=4) rfl;have f5:=bP.frozen;have hgot:=hN.got x (d_ hx);have a1:IntKind.i64.wrap (x.came+1)=x.came+1:=IntWalk.i64_in _ (by omega);clear hN hgot hs;clear h hbZ bR cw kZ bM hpb bP htr hp hi hkd;go_enter func137,ntmps137
 go_upto_region 1 with fail
 go_quiet (fail)
 go_upto_region 18 with fail
 obtain⟨W4,hW4⟩:∃W4,((Z.drewN nq).setCell ⟨p,3,none⟩ (.int .i64 (x.came+1))).setCell ⟨p,4,none⟩ (.bool true)=W4:=⟨_,rfl⟩;have kP:aB (·= p) (Z.drewN nq) W4:=by rw[<-hW4];exact((aB.refl _ _).setCell (.inl (by rfl)) _).setCell (.inl (by rfl)) _
 have k4:aB (·= p) w W4:=((HKZ.out.mono (fun _ _ h=>h.elim)).drewN nq).trans kP;have bp4:aD W4 p 180 (fB (.slice ta x.tasks.length tc) {x with came:=x.came+1,black:=true}):=by rw[<-hW4];exact((HBP.out.drewN nq).setAt 3 _).setAt 4 _
 have bm4:aD W4 w.heap.size 124 (aG m):=(HBM.out.drewN nq).kept kP (by omega);obtain⟨h5,hm5⟩:=HH.out.recells (x':={x with came:=x.came+1,black:=true}) (by omega) HP.out HPB.out hpp HTR.out k4 bp4 rfl;have HH5:=aC h5;have HM5:=aC hm5;rw[hW4];clear hW4 kP k4 m1 m3 q3 q4 f5 b6 cw' bp4;have m7:=bm4.cell (o:=7) rfl;have m8:=bm4.cell (o:=8) rfl;have d9:W4.cell? ⟨B,9,none⟩=some (.slice va s.values.length vc):=h5.box.cell (o:=9) rfl;have e9:=h5.box.frozen 9;have hb4:B < W4.heap.size:=h5.box.lt;have HPUT:Hid (∀U,Below W4.heap.size W4 U->Calls prog 131 #[.slice va s.values.length vc,.agg #[.string m.v.1,.int .i64 m.v.2]] U fun e w'=>∃v,e= .returned v/\(w'.ownsRow W4.heap.size 92 2 v (cP s.values m.v).length (fI (cP s.values m.v))/\Below W4.heap.size W4 w')):=fun U hU=>by
  have hrowU:=gP h5.vrow.1 hU (fun g' hg'=>(h5.vrow.1.lt g' hg').2);refine(uF _ s.values m.v U (tB hrowU).2 (by omega)).mono ?_;rintro e w' ⟨v,rfl,h1,h2⟩;exact⟨v,rfl,aP h1 (aB.refl (fun _=>False) _) (fun _ _ h=>h) hU.size,hU.trans (h2.mono hU.size)⟩
 obtain⟨n8,hn8⟩:∃n8,(cP s.values m.v).length=n8:=⟨_,rfl⟩;have HN8:Hid ((cP s.values m.v).length=n8):=hn8;rw[hn8]at HPUT;clear hn8 h5 hm5 bm4
 go_region_law (refine dY (by rfl) 131 _ _ _ (by rfl) (.slice va s.values.length vc) (.agg #[.string m.v.1,.int .i64 m.v.2]) (by rfl) (by rfl) (enters_of func131 (by kernel_rfl) rfl) (HPUT.out _ (by first|assumption|exact e_ _ _|exact(e_ _ _).drew|exact Below.drew (by assumption))) ?_;rintro v8 w8 ⟨hrow8,hb8⟩;obtain⟨a8,c8,rfl⟩:=bG hrow8;have hB8:=HH5.out.box.below hb8 HH5.out.box.lt;have i9:=hB8.cell (o:=9) rfl;have f9:=hB8.frozen 9)
 all_goals
  go_wp2_with fail
  go_end0
  rw[HS.out];have k86:aB (·= B) w8 (w8.setCell ⟨B,9,none⟩ (.slice a8 n8 c8)):=(aB.refl _ _).setCell (.inl (by rfl)) _;obtain⟨h6,hm6⟩:=HH5.out.revals (vals':=cP s.values m.v) ((aB.of_below hb8 (fun b h1 h2=>absurd h1 (by omega))).trans (k86.mono (fun _ _ h=> .inl h))) (hB8.setAt 9 _) (by
   rw[HN8.out];exact iX (aP hrow8 k86 (fun g e h=>by subst h;exact bF hrow8 hB8 (by decide) e) (a_ _)) (Nat.zero_le _)) (fun g e=> .inr (hrow8.lt g e).1)
  exact⟨rfl,_,_,_,_,h6,HM5.out.trans hm6⟩
theorem aJv(g o j:Nat):(⟨g,o,none⟩:Addr).add j=⟨g,o+j,none⟩:=by unfold Addr.add;split<;>simp_all
theorem aCq(m:aI){N:Nat}{part:Nat->Nat}{w:World}{B:Nat}{s:aE}{kv wv lv yv vv av:Value}{ps:List Nat}{rows:List (Value×List Nat)}(h:bE part w B s kv wv lv yv vv av ps rows)(hs:cX s)(hN:dS N s)(hN':N<=90000000)(h0:0<=m.src/\m.src < s.workers)(h1:0<=m.dst/\m.dst < s.workers)(htk:∀x∈s.W,x.tasks.length<=100000000)(t:aL)(r:List aL)(htt:∀x,s.W[m.dst.toNat]?= some x->x.tasks=t :: r)(hkd:m.kind=1) :
  Calls prog 137 #[.pointer (some ⟨B,0,none⟩),.agg (aG m)] w fun e w'=>e= .returned (.tuple #[])/\∃part' yv' vv' av',bE part' w' B (aX s m) kv wv lv yv' vv' av' ps rows/\cI part part' w w':=by
 obtain⟨i,x,hi,hx,hi5⟩:=hs.worker h1.1 h1.2;have ht:x.tasks=t :: r:=htt x (by rw[hi];simpa using hx);clear htt;obtain⟨p,gw,wc,hp,hwv,hgw,cw,hip,-⟩:=h.ptrW hx;subst hwv;obtain⟨tv,hpb,hpp,htr⟩:=h.wat i p x hp hx;obtain⟨ta,tc,htf⟩:=bG htr.1;subst htf;obtain⟨Z,hZ⟩:∃Z,w.alloc (Obj.cells (aG m) 124)=Z:=⟨_,rfl⟩;have hbZ:Below w.heap.size w Z:=by rw[<-hZ];exact(e_ _ _).alloc (a_ _) _
 have bM:aD Z w.heap.size 124 (aG m):=by rw[<-hZ];exact aD.new w _ _
 have SZ:Hid (Z.heap.size=w.heap.size+1):=by show _=_;rw[<-hZ];simp
 have bR:=h.box.below hbZ h.box.lt;have bP:=hpb.below hbZ hpb.lt;have b6:Z.cell? ⟨B,6,none⟩=some (.slice (some ⟨gw,0,none⟩) ps.length wc):=bR.cell (o:=6) rfl;have cw':=(hbZ.cell (p:=⟨gw,i,none⟩) hgw).trans cw;have m1:Z.cell? ⟨w.heap.size,1,none⟩=some (.int .i64 (i:Int)):=by rw[<-hi];exact bM.cell (o:=1) rfl
 have m3:Z.cell? ⟨w.heap.size,3,none⟩=some (.int .i64 1):=by rw[<-hkd];exact bM.cell (o:=3) rfl
 have i1:(0:Int)<=(i:Int):=by omega
 have i2:(i:Int) < (ps.length:Int):=by omega
 have hbl:=h.box.lt;have hpl:=hpb.lt;have kZ:aB (fun _=>False) w Z:=aB.of_below hbZ (fun k h1 h2=>by omega);have HS:Hid (aX s m=aR {s with W:=s.W.set i {x with tasks:=r}} {aH with src:=(i:Int),dst:=m.src,kind:=2,t:=t}):=by show _=_;simp[aX,hkd,hi,hx,ht]
 have HH:=aC h;have HBZ:=aC hbZ;have HKZ:=aC kZ;have HBM:=aC bM;have HPB:=aC hpb;have HBP:=aC bP;have HTR:=aC htr;have HP:=aC hp;have HI:=aC hi;obtain⟨iT,hiT,hzT0,hzT1,hzT2⟩:=info_parts jU;have hln:x.tasks.length=r.length+1:=by rw[ht];simp
 obtain⟨gt,tc',htf,-,hgt⟩:=World.ownsRow.form htr.1 (by omega);cases htf;have htl:=htk x (d_ hx);have p0:Z.cell? ⟨p,0,none⟩=some (.slice (some ⟨gt,0,none⟩) x.tasks.length tc):=bP.cell (o:=0) rfl;rw[hln]at p0;have f0:=bP.frozen 0;have HCT:Hid (∀j u,(aJ t++r.flatMap aJ)[j]?= some u->Z.cell? ⟨gt,j,none⟩=some u):=fun j u hj=>by
  have h9:=htr.1.cells (g:=gt) rfl j u (by rw[ht,List.flatMap_cons];exact hj);rw[dP]at h9;exact(hbZ.cell (p:=⟨gt,j,none⟩) hgt).trans h9
 have t0:Z.cell? ⟨gt,0,none⟩=some (.string t.id):=HCT.out 0 _ rfl;have t1:Z.cell? ⟨gt,1,none⟩=some (.int .i64 t.kind):=HCT.out 1 _ rfl;have t2:Z.cell? ⟨gt,2,none⟩=some (.int .i64 t.arg):=HCT.out 2 _ rfl;have hcap:r.length+1<=tc:=by
  rcases htr.1.2 with⟨h0,_⟩|⟨g',cap',cur,h0,_,_,h1,_⟩
  ·cases h0
  ·cases h0;omega
 have HSS:=aC hs;have HNN:=aC hN;have HX:=aC hx;have HLN:=aC hln;have l1:(0:Int) < ((r.length+1:Nat):Int):=by omega
 have l2:(1:Int)<=((r.length+1:Nat):Int):=by omega
 have l3:¬((r.length+1:Nat):Int)=0:=by omega
 have hwk:=h1;rw[hi]at hwk;have hgz:gt < Z.heap.size:=by have:=SZ.out;omega
 clear hs hN htk ht hln hx;clear h hbZ bR cw kZ bM hpb bP htr hp hi hkd;go_enter func137,ntmps137
 go_upto_region 1 with fail
 go_quiet (fail)
 obtain⟨Y,hY⟩:∃Y,Z.drewN nq=Y:=⟨_,rfl⟩;have hbY:Below w.heap.size w Y:=by rw[<-hY];exact gB HBZ.out nq
 have SY:Hid (Y.heap.size=w.heap.size+1):=by show _=_;rw[<-hY];simpa using SZ.out
 have c3:Y.cell? ⟨w.heap.size,3,none⟩=some (.int .i64 1):=by rw[<-hY];exact m3
 have HBM1:Hid (aD Y w.heap.size 124 (aG m)):=by rw[<-hY];exact HBM.out
 have HBP1:Hid (aD Y p 180 (fB (.slice (some ⟨gt,0,none⟩) (r.length+1) tc) x)):=by rw[<-hY,<-HLN.out];exact HBP.out
 have d0:Y.cell? ⟨p,0,none⟩=some (.slice (some ⟨gt,0,none⟩) (r.length+1) tc):=HBP1.out.cell (o:=0) rfl;have u0:Y.cell? ⟨gt,0,none⟩=some (.string t.id):=by rw[<-hY];exact t0
 have u1:Y.cell? ⟨gt,1,none⟩=some (.int .i64 t.kind):=by rw[<-hY];exact t1
 have u2:Y.cell? ⟨gt,2,none⟩=some (.int .i64 t.arg):=by rw[<-hY];exact t2
 have HCT1:Hid (∀j u,(aJ t++r.flatMap aJ)[j]?= some u->Y.cell? ⟨gt,j,none⟩=some u):=by rw[<-hY];exact HCT.out
 have HBY:=aC hbY;rw[hY];clear hY hZ hbY SZ b6 cw' m1 m3 p0 f0 t0 t1 t2 HCT HBM HBP HBZ HKZ hgz;have hgy:gt < Y.heap.size:=by have:=SY.out;omega
 go_upto_region 10 with fail
 obtain⟨Y1,hY1⟩:∃Y1,Y.alloc (Obj.cells #[.string t.id,.int .i64 t.kind,.int .i64 t.arg] 62)=Y1:=⟨_,rfl⟩;have hb1:Below w.heap.size w Y1:=by rw[<-hY1];exact HBY.out.alloc (by have:=SY.out;omega) _
 have hb1':Below Y.heap.size Y Y1:=by rw[<-hY1];exact(e_ _ _).alloc (a_ _) _
 have HT1:Hid (aD Y1 Y.heap.size 62 #[.string t.id,.int .i64 t.kind,.int .i64 t.arg]):=by rw[<-hY1];exact aD.new Y _ _
 have S1:Hid (Y1.heap.size=w.heap.size+2):=by show _=_;rw[<-hY1];simp[SY.out]
 have HBM2:Hid (aD Y1 w.heap.size 124 (aG m)):=HBM1.out.below hb1' HBM1.out.lt;have HBP2:Hid (aD Y1 p 180 (fB (.slice (some ⟨gt,0,none⟩) (r.length+1) tc) x)):=HBP1.out.below hb1' HBP1.out.lt;have HCT2:Hid (∀j u,(r.flatMap aJ)[j]?= some u->Y1.cell? ⟨gt,3+j,none⟩=some u):=fun j u hj=>(hb1'.cell (p:=⟨gt,3+j,none⟩) hgy).trans (HCT1.out (3+j) u (by rw[i7 (by show 3<=_;omega)];rw[show 3+j - (aJ t).length=j by show 3+j - 3=j;omega];exact hj))
 have HB1:=aC hb1;rw[hY1];clear hY1 hb1 hb1' c3 d0 u0 u1 u2 HCT1 HBM1 HBP1 hgy;have d0:=HBP2.out.cell (o:=0) rfl;have f0:=HBP2.out.frozen 0;have hpz:p < Y1.heap.size:=HBP2.out.lt;have hgz:gt < Y1.heap.size:=by have:=S1.out;omega
 have HFR:Hid ((r.flatMap aJ).length=r.length*3):=fL (sz:=3) (enc:=aJ) (fun _=>rfl) r;have FIN:Hid (∀w6 tv',aD w6 p 180 (fB tv' {x with tasks:=r})->w6.ownsRow Y1.heap.size 62 3 tv' r.length (r.flatMap aJ)->aB (fun g=>g=p\/Y1.heap.size<=g) Y1 w6->∃part6,bE part6 w6 B {s with W:=s.W.set i {x with tasks:=r}} kv (.slice (some ⟨gw,0,none⟩) ps.length wc) lv yv vv av ps rows/\cI part part6 w w6/\aD w6 w.heap.size 124 (aG m)/\aD w6 Y.heap.size 62 #[.string t.id,.int .i64 t.kind,.int .i64 t.arg]):=fun w6 tv' hb hr hk=>by
  have k6:aB (·= p) w w6:=(aB.of_below HB1.out (fun b h1 h2=>absurd h1 (by omega))).andThen hk (fun b h1 h2=>by
   rcases h2 with h2|h2
   ·exact h2
   ·have:=S1.out;omega)
  obtain⟨h6,hm6⟩:=HH.out.reworker (x':={x with tasks:=r}) (by omega) HP.out (k6.mono (fun g _ e=>by rw[e];exact hpp)) ⟨tv',hb,.inl ⟨hpp,hpl⟩,iX hr (Nat.zero_le _),fun g e=> .inr (by have:=(hr.lt g e).1;have:=S1.out;omega)⟩;exact⟨_,h6,hm6,HBM2.out.kept hk (by have:=S1.out;omega),HT1.out.kept hk (by have:=S1.out;have:=SY.out;omega)⟩
 go_cut [64] (fun _ wx=>∃part6,bE part6 wx B {s with W:=s.W.set i {x with tasks:=r}} kv (.slice (some ⟨gw,0,none⟩) ps.length wc) lv yv vv av ps rows/\cI part part6 w wx/\aD wx w.heap.size 124 (aG m)/\aD wx Y.heap.size 62 #[.string t.id,.int .i64 t.kind,.int .i64 t.arg])
 case first=>
  by_cases htc:tc=1
  ·subst htc
   have hr0:r=[]:=List.length_eq_zero_iff.1 (by omega);subst hr0
   go_wp2_with fail
   go_meet
   case rel=>
    have kS:aB (fun g=>g=p\/Y1.heap.size<=g) Y1 ((Y1.setCell ⟨p,0,none⟩ (.slice (some ⟨Y1.heap.size,0,none⟩) 0 0)).alloc (Obj.cells #[] 62)):=((aB.refl _ _).setCell (.inl (.inl (by rfl))) _).trans (aB.alloc _ _ _);exact FIN.out _ (.slice (some ⟨Y1.heap.size,0,none⟩) 0 0) ((HBP2.out.setAt 0 _).alloc _) (rM (Y1.setCell ⟨p,0,none⟩ (.slice (some ⟨Y1.heap.size,0,none⟩) 0 0)) Y1.heap.size Y1.heap.size 62 3 0 #[] [] (World.size_setCell _ _ _) (a_ _) rfl rfl (by unfold maxLen;omega)) kS
  ·have y1:¬tc - 1=0:=by omega
   have y2:1 < tc:=by omega
   have y3:(1:Int) < (tc:Int):=by omega
   have HN1:Hid (∀j u,(r.flatMap aJ)[j]?= some u->∃b,(some ⟨gt,3,none⟩:Option Addr)=some b/\(Y1.alloc (Obj.cells #[] 62)).cell? (b.add j)=some u):=fun j u hj=>⟨_,rfl,by
    rw[aJv];exact(((e_ _ _).alloc (a_ Y1.heap.size) _).cell (p:=⟨gt,3+j,none⟩) hgz).trans (HCT2.out j u hj)⟩
   go_wp2_with (at_builtin;refine kE rfl _ _ _ rfl Y1.heap.size 62 iT _ 3 32 underlying58 hiT hzT0 hzT1 hzT2 rfl (by omega) (.slice (some ⟨Y1.heap.size,0,none⟩) 0 0) 0 [] rfl (rM _ _ _ _ _ _ _ _ (by rfl) (a_ _) rfl rfl (by unfold maxLen;omega)) (some ⟨gt,3,none⟩) r.length (tc - 1) (r.flatMap aJ) rfl HFR.out HN1.out (iZ lA _) (by have:=HLN.out;unfold maxLen;omega) (by have:=HLN.out;omega) (by simp) ?_;intro v3 w3 hown3 hgrow3;rw[Nat.zero_add,List.nil_append]at hown3;obtain⟨a3,c3,rfl⟩:=bG hown3;have hp3:aD w3 p 180 (fB (.slice (some ⟨gt,0,none⟩) (r.length+1) tc) x):=(hgrow3.block p (by simp;omega) (fun e=>by simp[Value.ownBlock]at e;omega)).trans (HBP2.out.alloc _);have d1:=hp3.cell (o:=0) rfl;have f1:=hp3.frozen 0)
   go_meet
   case rel=>
    have kS:aB (·= p) w3 (w3.setCell ⟨p,0,none⟩ (.slice a3 r.length c3)):=(aB.refl _ _).setCell (.inl (by rfl)) _;have kA:aB (fun g=>g=p\/Y1.heap.size<=g) Y1 w3:=(aB.alloc _ _ _).trans (aB.grown hgrow3 (fun r e=>by simp[Value.ownBlock]at e;exact .inr (by omega)));exact FIN.out _ (.slice a3 r.length c3) (hp3.setAt 0 _) (aP hown3 kS (fun g e h=>by subst h;exact bF hown3 hp3 (by decide) e) (a_ _)) (kA.trans (kS.mono (fun _ _ h=> .inl h)))
 case rest=>
  obtain⟨part6,h6,hm6,bm6,bt6⟩:=hcut
  rename World=>w6
  have m0:w6.cell? ⟨w.heap.size,0,none⟩=some (.int .i64 m.src):=bm6.cell (o:=0) rfl;have m1:w6.cell? ⟨w.heap.size,1,none⟩=some (.int .i64 (i:Int)):=by rw[<-HI.out];exact bm6.cell (o:=1) rfl
  have t0:=bt6.cell (o:=0) rfl;have t1:=bt6.cell (o:=1) rfl;have t2:=bt6.cell (o:=2) rfl;have hs6:cX {s with W:=s.W.set i {x with tasks:=r}}:=⟨by simpa using HSS.out.len,HSS.out.two,HSS.out.five,by simpa using HSS.out.llen,fun ls hl=>by simpa using HSS.out.lrow ls hl,HSS.out.way⟩;have hN6:dS N {s with W:=s.W.set i {x with tasks:=r}}:=⟨HNN.out.all,HNN.out.known,HNN.out.came,HNN.out.kept,fun y hy=>by
   rcases List.mem_or_eq_of_mem_set hy with h'|rfl
   ·exact HNN.out.sent y h'
   ·exact HNN.out.sent x (d_ HX.out),fun y hy=>by
   rcases List.mem_or_eq_of_mem_set hy with h'|rfl
   ·exact HNN.out.got y h'
   ·exact HNN.out.got x (d_ HX.out)⟩
  have HSND:Hid (Calls prog 133 #[.pointer (some ⟨B,0,none⟩),.agg (aG {aH with src:=(i:Int),dst:=m.src,kind:=2,t:=t})] w6 _):=nA {aH with src:=(i:Int),dst:=m.src,kind:=2,t:=t} h6 hs6 hN6 (by omega) hwk h0;have HM6:=aC hm6;clear h6 hm6 bm6 bt6 hs6 hN6 d0 f0
  go_wp2_with (go_at_call 133;refine HSND.out.mono ?_;rintro e w2 ⟨rfl,part2,yv2,h2,hm2⟩)
  go_end0
  rw[HS.out];exact⟨rfl,_,_,_,_,h2,HM6.out.trans hm2⟩
end Go.Proofs.YtfanaanofjhlkaaGreatDoor
