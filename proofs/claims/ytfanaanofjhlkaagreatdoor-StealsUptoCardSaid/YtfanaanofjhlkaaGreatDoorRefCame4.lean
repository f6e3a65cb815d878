import Derived.Test.YtfanaanofjhlkaaGreatDoorRefCame3
set_option maxHeartbeats 16000000
set_option maxRecDepth 100000
namespace Go.Proofs.YtfanaanofjhlkaaGreatDoor
open Go Go.RowKit Tryz
theorem aHm{part:Nat->Nat}{w:World}{B:Nat}{s:aE}{kv wv lv yv vv av:Value}{ps:List Nat}{rows:List (Value×List Nat)}(h:bE part w B s kv wv lv yv vv av ps rows)(i:Nat)(x:cF)(hx:s.W[i]?= some x) :
  Calls prog 181 #[.pointer (some ⟨B,0,none⟩),.int .i64 (i:Int)] w fun e w'=>e= .returned (.bool x.tasks.isEmpty)/\w=w':=by
 obtain⟨p,gw,wc,hp,hwv,hgw,cw,hip,-⟩:=h.ptrW hx;subst hwv;obtain⟨tv,hpb,hpp,htr⟩:=h.wat i p x hp hx;obtain⟨ta,tc,htf⟩:=bG htr.1;subst htf;have b6:w.cell? ⟨B,6,none⟩=some (.slice (some ⟨gw,0,none⟩) ps.length wc):=h.box.cell (o:=6) rfl;have p0:w.cell? ⟨p,0,none⟩=some (.slice ta x.tasks.length tc):=hpb.cell (o:=0) rfl;have i1:(0:Int)<=(i:Int):=by omega
 have i2:(i:Int) < (ps.length:Int):=by omega
 clear h htr hpb;cases ht:x.tasks with
 |nil=>
  rw[ht]at p0;have q0:w.cell? ⟨p,0,none⟩=some (.slice ta 0 tc):=p0;clear p0 ht;go_enter func181,ntmps181
  go_wp2_with fail
  go_ret;exact⟨rfl,rfl⟩
 |cons t r=>
  rw[ht]at p0;have q0:w.cell? ⟨p,0,none⟩=some (.slice ta (r.length+1) tc):=p0;have hb:(((r.length+1:Nat):Int)==0)=false:=by rw[g_];omega
  have hb2:(((r.length:Int)+1)==0)=false:=by rw[g_];omega
  clear p0 ht;go_enter func181,ntmps181
  go_wp2_with fail
  go_ret;exact⟨rfl,rfl⟩
theorem aDg(m:aI){N:Nat}{part:Nat->Nat}{w:World}{B:Nat}{s:aE}{kv wv lv yv vv av:Value}{ps:List Nat}{rows:List (Value×List Nat)}(h:bE part w B s kv wv lv yv vv av ps rows)(hs:cX s)(hN:dS N s)(hN':N<=90000000)(h1:0<=m.dst/\m.dst < s.workers)(hkd:m.kind=6) :
  Calls prog 137 #[.pointer (some ⟨B,0,none⟩),.agg (aG m)] w fun e w'=>e= .returned (.tuple #[])/\∃part' yv' vv' av',bE part' w' B (aX s m) kv wv lv yv' vv' av' ps rows/\cI part part' w w':=by
 obtain⟨i,x,hi,hx,hi5⟩:=hs.worker h1.1 h1.2;obtain⟨p,gw,wc,hp,hwv,hgw,cw,hip,-⟩:=h.ptrW hx;subst hwv;obtain⟨tv,hpb,hpp,htr⟩:=h.wat i p x hp hx;obtain⟨ta,tc,htf⟩:=bG htr.1;subst htf;obtain⟨Z,hZ⟩:∃Z,w.alloc (Obj.cells (aG m) 124)=Z:=⟨_,rfl⟩;have hbZ:Below w.heap.size w Z:=by rw[<-hZ];exact(e_ _ _).alloc (a_ _) _
 have bM:aD Z w.heap.size 124 (aG m):=by rw[<-hZ];exact aD.new w _ _
 have SZ:Hid (Z.heap.size=w.heap.size+1):=by show _=_;rw[<-hZ];simp
 have bR:=h.box.below hbZ h.box.lt;have bP:=hpb.below hbZ hpb.lt;have b6:Z.cell? ⟨B,6,none⟩=some (.slice (some ⟨gw,0,none⟩) ps.length wc):=bR.cell (o:=6) rfl;have cw':=(hbZ.cell (p:=⟨gw,i,none⟩) hgw).trans cw;have m1:Z.cell? ⟨w.heap.size,1,none⟩=some (.int .i64 (i:Int)):=by rw[<-hi];exact bM.cell (o:=1) rfl
 have m3:Z.cell? ⟨w.heap.size,3,none⟩=some (.int .i64 6):=by rw[<-hkd];exact bM.cell (o:=3) rfl
 have i1:(0:Int)<=(i:Int):=by omega
 have i2:(i:Int) < (ps.length:Int):=by omega
 have hbl:=h.box.lt;have hpl:=hpb.lt;have kZ:aB (fun _=>False) w Z:=aB.of_below hbZ (fun k h1 h2=>by omega);have HS:Hid (aX s m=aR s {aH with src:=(i:Int),dst:=0,kind:=7,round:=m.round,sent:=x.sent,came:=x.came,idle:=x.tasks.isEmpty}):=by show _=_;simp[aX,hkd,hi,hx]
 have HH:=aC h;have HBZ:=aC hbZ;have HKZ:=aC kZ;have HBM:=aC bM;have HPB:=aC hpb;have HBP:=aC bP;have HTR:=aC htr;have HP:=aC hp;have HI:=aC hi;obtain⟨h9,hm9⟩:=h.later hbZ;have HIDL:Hid (∀nq,Calls prog 181 #[.pointer (some ⟨B,0,none⟩),.int .i64 (i:Int)] (Z.drewN nq) fun e w'=>e= .returned (.bool x.tasks.isEmpty)/\(Z.drewN nq)=w'):=fun nq=>by
  obtain⟨h8,hm8⟩:=h9.later (gB (e_ _ Z) nq);exact aHm h8 i x hx
 have q2:=bP.cell (o:=2) rfl;have q3:=bP.cell (o:=3) rfl;have m12:=bM.cell (o:=12) rfl;have HSND:Hid (∀U,Below Z.heap.size Z U->Calls prog 133 #[.pointer (some ⟨B,0,none⟩),.agg (aG {aH with src:=(i:Int),dst:=0,kind:=7,round:=m.round,sent:=x.sent,came:=x.came,idle:=x.tasks.isEmpty})] U fun e w'=>∃v,e= .returned v/\(v= .tuple #[]/\∃part2 yv2,bE part2 w' B (aR s {aH with src:=(i:Int),dst:=0,kind:=7,round:=m.round,sent:=x.sent,came:=x.came,idle:=x.tasks.isEmpty}) kv (.slice (some ⟨gw,0,none⟩) ps.length wc) lv yv2 vv av ps rows/\cI part part2 w w')):=fun U hU=>by
  obtain⟨h8,hm8⟩:=h9.later hU;refine(nA {aH with src:=(i:Int),dst:=0,kind:=7,round:=m.round,sent:=x.sent,came:=x.came,idle:=x.tasks.isEmpty} h8 hs hN (by omega) (by rw[<-hi];exact h1) (by have:=hs.two;show(0:Int)<=0/\(0:Int) < s.workers;omega)).mono ?_;rintro e w' ⟨rfl,part',yv',h2,hm2⟩;exact⟨_,rfl,rfl,part',yv',h2,(hm9.trans hm8).trans hm2⟩
 obtain⟨id,hid⟩:∃id,x.tasks.isEmpty=id:=⟨_,rfl⟩;rw[hid]at HIDL HSND HS;clear h9 hm9 hs hN hid;clear h hbZ bR cw kZ bM hpb bP htr hp hi hkd;go_enter func137,ntmps137
 go_upto_region 1 with fail
 go_quiet (fail)
 go_upto_region 25 with(go_at_call 181;refine(HIDL.out _).mono ?_;rintro e w1 ⟨rfl,rfl⟩)
 go_region_law (refine dY (by rfl) 133 _ _ _ (by rfl) (.pointer (some ⟨B,0,none⟩)) (.agg (aG {aH with src:=(i:Int),dst:=0,kind:=7,round:=m.round,sent:=x.sent,came:=x.came,idle:=id})) (by rfl) (by rfl) (enters_of func133 (by kernel_rfl) rfl) (HSND.out _ (by first|exact(gB (e_ _ _) _).drew|exact gB (e_ _ _) _)) ?_;rintro v9 w9 ⟨rfl,part2,yv2,h2,hm2⟩)
 all_goals
  go_wp2_with fail
  go_end0
  rw[HS.out];exact⟨rfl,_,_,_,_,h2,hm2⟩
end Go.Proofs.YtfanaanofjhlkaaGreatDoor
