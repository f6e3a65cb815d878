import Derived.Test.YtfanaanofjhlkaaGreatDoorStoreM
import Derived.Test.YtfanaanofjhlkaaGreatDoorRefCame4
set_option maxHeartbeats 16000000
set_option maxRecDepth 100000
namespace Go.Proofs.YtfanaanofjhlkaaGreatDoor
open Go Go.RowKit Tryz
theorem wQ:∀(us xs ys:List Value),us.length=ys.length->iH (xs++ys) xs.length us=xs++us
 |[],xs,ys,h=>by
  have:ys=[]:=List.length_eq_zero_iff.1 h.symm;subst this;rfl
 |u :: r,xs,ys,h=>by
  cases ys with
  |nil=>simp at h
  |cons y q=>
   rw[iH];have e:(xs++y :: q).set xs.length u=(xs++ [u])++q:=by simp
   have e2:xs.length+1=(xs++ [u]).length:=by simp
   rw[e,e2,wQ r (xs++ [u]) q (by simpa using h)];simp
theorem wK{part:Nat->Nat}{w:World}{B:Nat}{s:aE}{kv wv lv yv vv av:Value}{ps:List Nat}{rows:List (Value×List Nat)}(h:bE part w B s kv wv lv yv vv av ps rows)(L:List fD)(a:fD)(ha:s.answers=L++ [a])(hL:L.length<=100000000)(sent came:Int)(idle:Bool)
  (h1: -1000000000000000<=a.many/\a.many<=1000000000000000) (h2: -1000000000000000000<=a.sent+sent/\a.sent+sent<=1000000000000000000) (h3: -1000000000000000000<=a.came+came/\a.came+came<=1000000000000000000) :
  Calls prog 182 #[.pointer (some ⟨B,0,none⟩),.int .i64 sent,.int .i64 came,.bool idle] w fun e w'=>e= .returned (.tuple #[])/\∃part' av',bE part' w' B (dA s sent came idle) kv wv lv yv vv av' ps rows/\cI part part' w w':=by
 have hlen:s.answers.length=L.length+1:=by rw[ha];simp
 obtain⟨ga,ac,hf,-,hgl⟩:=World.ownsRow.form h.arow.1 (by omega);subst hf;have hrow:w.ownsRow 0 212 4 (.slice (some ⟨ga,0,none⟩) (L.length+1) ac) (L.length+1) (L.flatMap gG++gG a):=by
  have h9:=h.arow.1;rw[hlen,ha,List.flatMap_append]at h9;simpa using h9
 have hfl:(L.flatMap gG).length=L.length*4:=fL (sz:=4) (enc:=gG) (fun _=>rfl) L;have hcell:∀j u,(gG a)[j]?= some u->w.cell? ⟨ga,L.length*4+j,none⟩=some u:=fun j u hj=>by
  have h1:=hrow.cells (g:=ga) rfl (L.length*4+j) u (by
   rw[i7 (by omega),hfl,show L.length*4+j - L.length*4=j from by omega];exact hj)
  rwa [dP]at h1
 have c0:w.cell? ⟨ga,L.length*4,none⟩=some (.int .i64 a.many):=hcell 0 _ rfl;have c1:w.cell? ⟨ga,L.length*4+1,none⟩=some (.int .i64 a.sent):=hcell 1 _ rfl;have c2:w.cell? ⟨ga,L.length*4+2,none⟩=some (.int .i64 a.came):=hcell 2 _ rfl;have c3:w.cell? ⟨ga,L.length*4+3,none⟩=some (.bool a.idle):=hcell 3 _ rfl;have fz:∀o,w.frozen? ⟨ga,o,none⟩=false:=fun o=>xN hrow o
 have z0:=fz (L.length*4);have z1:=fz (L.length*4+1);have z2:=fz (L.length*4+2);have z3:=fz (L.length*4+3);have b11:w.cell? ⟨B,11,none⟩=some (.slice (some ⟨ga,0,none⟩) (L.length+1) ac):=by rw[<-hlen];exact h.box.cell (o:=11) rfl
 have w0:IntKind.i64.wrap (((L.length+1:Nat):Int) - 1)=(L.length:Int):=by rw[IntWalk.i64_in _ (by omega)];omega
 have w0':(((L.length+1:Nat):Int) - 1)=(L.length:Int):=by omega
 have w1:IntKind.i64.wrap (a.many+1)=a.many+1:=IntWalk.i64_in _ (by omega);have w2:IntKind.i64.wrap (a.sent+sent)=a.sent+sent:=IntWalk.i64_in _ (by omega);have w3:IntKind.i64.wrap (a.came+came)=a.came+came:=IntWalk.i64_in _ (by omega);have j1:(0:Int)<=(L.length:Int):=by omega
 have j2:(L.length:Int) < ((L.length+1:Nat):Int):=by omega
 have HS:Hid (dA s sent came idle={s with answers:=L++ [⟨a.many+1,a.sent+sent,a.came+came,a.idle&&idle⟩]}):=by show _=_;simp[dA,ha]
 have FIN:Hid (∀b nq,b=(a.idle&&idle)->∃part' av',bE part' (dR (w.drewN nq) ga (L.length*4) [.int .i64 (a.many+1),.int .i64 (a.sent+sent),.int .i64 (a.came+came),.bool b]) B (dA s sent came idle) kv wv lv yv vv av' ps rows/\cI part part' w (dR (w.drewN nq) ga (L.length*4) [.int .i64 (a.many+1),.int .i64 (a.sent+sent),.int .i64 (a.came+came),.bool b])):=fun b nq hb=>by
  have k:aB (fun g=>g=B\/part g=4) w (dR (w.drewN nq) ga (L.length*4) [.int .i64 (a.many+1),.int .i64 (a.sent+sent),.int .i64 (a.came+came),.bool b]):=jC (.inl (.inr (h.arow.2 ga rfl))) _ _ _ ((aB.refl _ _).drewN nq);have k':aB (·= ga) w (dR (w.drewN nq) ga (L.length*4) [.int .i64 (a.many+1),.int .i64 (a.sent+sent),.int .i64 (a.came+came),.bool b]):=jC (X:=fun x=>x=ga) (.inl rfl) _ _ _ ((aB.refl _ _).drewN nq);have hr:=nB [.int .i64 (a.many+1),.int .i64 (a.sent+sent),.int .i64 (a.came+came),.bool b] (L.flatMap gG++gG a) (L.length*4) (w.drewN nq) hrow (by show L.length*4+4<=(L.length+1)*4;omega);have hx:iH (L.flatMap gG++gG a) (L.length*4) [.int .i64 (a.many+1),.int .i64 (a.sent+sent),.int .i64 (a.came+came),.bool b]=(L++ [(⟨a.many+1,a.sent+sent,a.came+came,b⟩:fD)]).flatMap gG:=by
   rw[List.flatMap_append,<-hfl,wQ [.int .i64 (a.many+1),.int .i64 (a.sent+sent),.int .i64 (a.came+came),.bool b] (L.flatMap gG) (gG a) rfl];simp[gG]
  rw[hx]at hr;have hB:=h.box.kept k' (fun e=>by have h7:=h.pB;have h8:=h.arow.2 ga rfl;rw[e]at h7;omega);obtain⟨h5,hm5⟩:=h.reans (ans':=L++ [⟨a.many+1,a.sent+sent,a.came+came,b⟩]) (av':= .slice (some ⟨ga,0,none⟩) s.answers.length ac) k hB (by
   rw[hlen,f_,List.length_singleton];exact hr) (fun g e=>by
   obtain rfl:ga=g:=by simpa[Value.ownBlock]using e
   exact .inl ⟨h.arow.2 ga rfl,hgl⟩)
  rw[HS.out,<-hb];exact⟨_,_,h5,hm5⟩
 clear h hrow hcell hfl ha hlen h1 h2 h3 fz;obtain⟨ai,hai⟩:∃ai,a.idle=ai:=⟨_,rfl⟩;rw[hai]at c3 FIN;clear hai;cases ai with
 |true=>
  go_enter func182,ntmps182
  go_upto_region 0 with fail
  go_quiet (fail)
  go_wp2_with fail
  go_end0
  exact⟨rfl,FIN.out idle nq (by simp)⟩
 |false=>
  go_enter func182,ntmps182
  go_upto_region 0 with fail
  go_quiet (fail)
  go_wp2_with fail
  go_end0
  exact⟨rfl,FIN.out false nq (by simp)⟩
theorem aBp(m:aI){part:Nat->Nat}{w:World}{B:Nat}{s:aE}{kv wv lv yv vv av:Value}{ps:List Nat}{rows:List (Value×List Nat)}(h:bE part w B s kv wv lv yv vv av ps rows)(hs:cX s)(h1:0<=m.dst/\m.dst < s.workers)(L:List fD)(a:fD)(ha:s.answers=L++ [a])(hL:L.length<=100000000)(g1: -1000000000000000<=a.many/\a.many<=1000000000000000)(g2: -1000000000000000000<=a.sent+m.sent/\a.sent+m.sent<=1000000000000000000)(g3: -1000000000000000000<=a.came+m.came/\a.came+m.came<=1000000000000000000)(hkd:m.kind=7) :
  Calls prog 137 #[.pointer (some ⟨B,0,none⟩),.agg (aG m)] w fun e w'=>e= .returned (.tuple #[])/\∃part' yv' vv' av',bE part' w' B (aX s m) kv wv lv yv' vv' av' ps rows/\cI part part' w w':=by
 obtain⟨i,x,hi,hx,hi5⟩:=hs.worker h1.1 h1.2;obtain⟨p,gw,wc,hp,hwv,hgw,cw,hip,-⟩:=h.ptrW hx;subst hwv;obtain⟨tv,hpb,hpp,htr⟩:=h.wat i p x hp hx;obtain⟨ta,tc,htf⟩:=bG htr.1;subst htf;obtain⟨Z,hZ⟩:∃Z,w.alloc (Obj.cells (aG m) 124)=Z:=⟨_,rfl⟩;have hbZ:Below w.heap.size w Z:=by rw[<-hZ];exact(e_ _ _).alloc (a_ _) _
 have bM:aD Z w.heap.size 124 (aG m):=by rw[<-hZ];exact aD.new w _ _
 have SZ:Hid (Z.heap.size=w.heap.size+1):=by show _=_;rw[<-hZ];simp
 have bR:=h.box.below hbZ h.box.lt;have bP:=hpb.below hbZ hpb.lt;have b6:Z.cell? ⟨B,6,none⟩=some (.slice (some ⟨gw,0,none⟩) ps.length wc):=bR.cell (o:=6) rfl;have cw':=(hbZ.cell (p:=⟨gw,i,none⟩) hgw).trans cw;have m1:Z.cell? ⟨w.heap.size,1,none⟩=some (.int .i64 (i:Int)):=by rw[<-hi];exact bM.cell (o:=1) rfl
 have m3:Z.cell? ⟨w.heap.size,3,none⟩=some (.int .i64 7):=by rw[<-hkd];exact bM.cell (o:=3) rfl
 have i1:(0:Int)<=(i:Int):=by omega
 have i2:(i:Int) < (ps.length:Int):=by omega
 have hbl:=h.box.lt;have hpl:=hpb.lt;have kZ:aB (fun _=>False) w Z:=aB.of_below hbZ (fun k h1 h2=>by omega);have HS:Hid (aX s m=dA s m.sent m.came m.idle):=by show _=_;simp[aX,hkd]
 have HH:=aC h;have HBZ:=aC hbZ;have HKZ:=aC kZ;have HBM:=aC bM;have HPB:=aC hpb;have HBP:=aC bP;have HTR:=aC htr;have HP:=aC hp;have HI:=aC hi;have m10:=bM.cell (o:=10) rfl;have m13:=bM.cell (o:=13) rfl;have m14:=bM.cell (o:=14) rfl;obtain⟨h9,hm9⟩:=h.later hbZ;have HNT:Hid (∀nq,Calls prog 182 #[.pointer (some ⟨B,0,none⟩),.int .i64 m.sent,.int .i64 m.came,.bool m.idle] (Z.drewN nq) fun e w'=>e= .returned (.tuple #[])/\∃part' av',bE part' w' B (dA s m.sent m.came m.idle) kv (.slice (some ⟨gw,0,none⟩) ps.length wc) lv yv vv av' ps rows/\cI part part' w w'):=fun nq=>by
  obtain⟨h8,hm8⟩:=h9.later (gB (e_ _ Z) nq);refine(wK h8 L a ha hL m.sent m.came m.idle g1 g2 g3).mono ?_;rintro e w' ⟨rfl,part',av',h2,hm2⟩;exact⟨rfl,part',av',h2,(hm9.trans hm8).trans hm2⟩
 clear h9 hm9 hs ha;clear h hbZ bR cw kZ bM hpb bP htr hp hi hkd;go_enter func137,ntmps137
 go_upto_region 1 with fail
 go_quiet (fail)
 go_wp2_with (go_at_call 182;refine(HNT.out _).mono ?_;rintro e w2 ⟨rfl,part2,av2,h2,hm2⟩)
 go_end0
 rw[HS.out];exact⟨rfl,_,_,_,_,h2,hm2⟩
theorem aAh(w:World):Calls prog 70 #[.pointer none] w fun e w'=>e= .returned (.tuple #[.slice none 0 0,.bool false,.int .i64 1])/\w'=w:=by
 go_enter func70,ntmps70
 go_wp2_with fail
 go_ret3
 exact⟨rfl,rfl⟩
def lC(s:aE):List (ByteArray×Int):=if s.done then s.values else []
theorem aAb(F:Nat->Prop)(B:Nat)(s:aE)(w:World)(hr:dW F w B s)(hv:s.values.length<=90000000) :
  Calls prog 70 #[.pointer (some ⟨B,0,none⟩)] w fun e w'=>∃v,e= .returned (.tuple #[v,.bool s.done,.int .i64 0])/\w'.ownsRow w.heap.size 92 2 v (lC s).length ((lC s).flatMap dL)/\Below w.heap.size w w':=by
 obtain⟨iV,hiV,hzV0,hzV1,hzV2⟩:=info_parts pI;obtain⟨part,hF,hat⟩:=hr;obtain⟨kv,wv,lv,yv,vv,av,ps,rows,h⟩:=hat.opened;obtain⟨va,vc,hvf⟩:=bG h.vrow.1;subst hvf;have b9:w.cell? ⟨B,9,none⟩=some (.slice va s.values.length vc):=h.box.cell (o:=9) rfl;have b14:w.cell? ⟨B,14,none⟩=some (.bool s.done):=h.box.cell (o:=14) rfl;have HROW:=aC h.vrow.1;clear h hat hF;unfold lC;cases hd:s.done with
 |false=>
  rw[hd]at b14;clear hd;go_enter func70,ntmps70
  go_wp2_with fail
  go_ret3
  exact⟨_,rfl,World.ownsRow_nil _ _ _ _,e_ _ _⟩
 |true=>
  rw[hd]at b14;clear hd;go_enter func70,ntmps70
  go_wp2_with (at_builtin;refine oB rfl _ _ _ rfl 92 iV _ 2 24 underlying42 hiV hzV0 hzV1 hzV2 rfl (by omega) rfl 0 (.slice va s.values.length vc) s.values.length (s.values.flatMap dL) rfl HROW.out (iZ xX _) (by unfold maxLen;omega) (by omega) ?_;intro wv' w1 hrow1 hk1)
  go_ret3
  exact⟨_,rfl,hrow1,hk1.below (a_ _) (fun _ h=>h.elim)⟩
def lQ(s:aE)(x:cF):Bool:=s.around&& !x.token.black&& !x.black&&(x.token.count+x.sent - x.came==0)
def fP(s:aE):aE×Int:=
 match s.W[0]? with
 |none=>(s,9)
 |some x=>
  if x.has=false\/x.tasks≠ []then(s,9)
  else if lQ s x=true then({s with done:=true},0)
  else(aR {s with W:=s.W.set 0 {x with black:=false,has:=false}} {aH with src:=0,dst:=s.workers - 1,kind:=5},0)
theorem aCp(F:Nat->Prop)(B N:Nat)(s:aE)(w:World)(hr:dW F w B s)(hs:cX s)(hN:dS N s)(hN':N<=90000000)(hc:∀x∈s.W,-100000000000000000<=x.token.count/\x.token.count<=100000000000000000) :
  Calls prog 139 #[.pointer (some ⟨B,0,none⟩)] w (dE F w B (fP s)):=by
 have HR:=aC hr;have h2:=hs.two;have h5:=hs.five;have hlen:=hs.len;obtain⟨x,hx⟩:∃x,s.W[0]?= some x:=⟨_,b_ (by omega)⟩;obtain⟨part,hF,hat⟩:=hr;obtain⟨kv,wv,lv,yv,vv,av,ps,rows,h⟩:=hat.opened;obtain⟨p,gw,wc,hp,hwv,hgw,cw,hip,-⟩:=h.ptrW hx;subst hwv;obtain⟨tv,hpb,hpp,htr⟩:=h.wat 0 p x hp hx;obtain⟨ta,tc,htf⟩:=bG htr.1;subst htf;have b0:w.cell? ⟨B,0,none⟩=some (.int .i64 s.workers):=h.box.cell (o:=0) rfl;have b6:w.cell? ⟨B,6,none⟩=some (.slice (some ⟨gw,0,none⟩) ps.length wc):=h.box.cell (o:=6) rfl;have b12:w.cell? ⟨B,12,none⟩=some (.bool s.around):=h.box.cell (o:=12) rfl;have p0:w.cell? ⟨p,0,none⟩=some (.slice ta x.tasks.length tc):=hpb.cell (o:=0) rfl;have p5:w.cell? ⟨p,5,none⟩=some (.bool x.has):=hpb.cell (o:=5) rfl;have i2:(0:Int) < (ps.length:Int):=by omega
 have HH:=aC h;have HPB:=aC hpb;have HTR:=aC htr;have HF:=aC hF;have HP:=aC hp;have hxs:=hN.sent x (d_ hx);have hxc:=hN.got x (d_ hx);have hxt:=hc x (d_ hx);have hbl:=h.box.lt;have HX:=aC hx;have HSS:=aC hs;have HNN:=aC hN;clear h hat hpb htr hF hp hs hN hc;by_cases h1:x.has=false
 ·have HS:Hid (fP s=(s,9)):=by show _=_;simp[fP,hx,h1]
  rw[h1]at p5;clear h1 hx;go_enter func139,ntmps139
  go_wp2_with fail
  go_ret;rw[HS.out];exact dE.same HR.out _
 have h1':x.has=true:=by simpa using h1
 rw[h1']at p5;by_cases h4:x.tasks=[]
 case neg=>
  have HS:Hid (fP s=(s,9)):=by show _=_;simp[fP,hx,h4]
  obtain⟨L,hL⟩:∃L,x.tasks.length=L+1:=⟨x.tasks.length - 1,by have:=List.length_pos_iff.2 h4;omega⟩;rw[hL]at p0;have hl:(0:Int) < ((L+1:Nat):Int):=by omega
  clear hL HTR HPB h1 h1' h4 hx;go_enter func139,ntmps139
  go_wp2_with fail
  go_ret;rw[HS.out];exact dE.same HR.out _
 have hl0:x.tasks.length=0:=by rw[h4];rfl
 rw[hl0]at p0;obtain⟨res,hres⟩:∃res,fP s=res:=⟨_,rfl⟩;have HRES:Hid (res=if lQ s x=true then({s with done:=true},0)else(aR {s with W:=s.W.set 0 {x with black:=false,has:=false}} {aH with src:=0,dst:=s.workers - 1,kind:=5},0)):=by
  show res=_;rw[<-hres];simp[fP,hx,h1',h4]
 rw[hres];clear hres h1 h1' h4 hl0 hx;have p2:w.cell? ⟨p,2,none⟩=some (.int .i64 x.sent):=HPB.out.cell (o:=2) rfl;have p3:w.cell? ⟨p,3,none⟩=some (.int .i64 x.came):=HPB.out.cell (o:=3) rfl;have p4:w.cell? ⟨p,4,none⟩=some (.bool x.black):=HPB.out.cell (o:=4) rfl;have p15:w.cell? ⟨p,15,none⟩=some (.bool x.token.black):=HPB.out.cell (o:=15) rfl;have p17:w.cell? ⟨p,17,none⟩=some (.int .i64 x.token.count):=HPB.out.cell (o:=17) rfl;have a1:IntKind.i64.wrap (x.token.count+x.sent)=x.token.count+x.sent:=IntWalk.i64_in _ (by omega);have a2:IntKind.i64.wrap (x.token.count+x.sent - x.came)=x.token.count+x.sent - x.came:=IntWalk.i64_in _ (by omega);go_enter func139,ntmps139
 go_upto_region 4 with fail
 go_cut [59] (fun b wx=>b= .bool (lQ s x)/\∃nq,wx=w.drewN nq)
 case first=>
  obtain⟨ar,har⟩:∃ar,s.around=ar:=⟨_,rfl⟩;obtain⟨tb,htb⟩:∃tb,x.token.black=tb:=⟨_,rfl⟩;obtain⟨xb,hxb⟩:∃xb,x.black=xb:=⟨_,rfl⟩;have HRB:Hid (lQ s x=(ar&& !tb&& !xb&&(x.token.count+x.sent - x.came==0))):=by show _=_;rw[<-har,<-htb,<-hxb];rfl
  rw[har]at b12;rw[htb]at p15;rw[hxb]at p4;clear har htb hxb;cases ar with
  |false=>
   go_quiet (fail)
   go_wp2_with fail
   go_meet
   case rel=>exact⟨by rw[HRB.out];rfl,_,rfl⟩
  |true=>
   cases tb with
   |true=>
    go_quiet (fail)
    go_wp2_with fail
    go_meet
    case rel=>exact⟨by rw[HRB.out];rfl,_,rfl⟩
   |false=>
    cases xb with
    |true=>
     go_quiet (fail)
     go_wp2_with fail
     go_meet
     case rel=>exact⟨by rw[HRB.out];rfl,_,rfl⟩
    |false=>
     go_quiet (fail)
     go_wp2_with fail
     go_meet
     case rel=>exact⟨by rw[HRB.out];rfl,_,rfl⟩
 case rest=>
  obtain⟨rfl,nq,hq⟩:=hcut
  rename World=>w1
  have hb1:Below w.heap.size w w1:=by rw[hq];exact gB (e_ _ _) nq
  clear hq;obtain⟨h6,hm6⟩:=HH.out.later hb1;have hp6:=HPB.out.below hb1 HPB.out.lt;have HM6:=aC hm6;have HH6:=aC h6;have HP6:=aC hp6;have HT6:Hid (cO (fun b=>ext w part 0 b=10+0) 62 3 aJ w1 (.slice ta x.tasks.length tc) x.tasks):=⟨mK HTR.out.1 hb1,fun g e=>(aY (HTR.out.1.lt g e).2).trans (HTR.out.2 g e)⟩;have hpp6:ext w part 0 p=10+0:=(aY HPB.out.lt).trans hpp;cases hrb:lQ s x with
  |true=>
   rw[hrb]at HRES;have c14:=h6.box.cell (o:=14) rfl;have f14:=h6.box.frozen 14;clear h6 hm6 hp6 hb1 hrb p0 p2 p3 p4 p5 p15 p17 b0 b6 b12
   go_wp2_with fail
   go_ret;have kS:aB (·= B) w1 (w1.setCell ⟨B,14,none⟩ (.bool true)):=(aB.refl _ _).setCell (.inl (by rfl)) _;obtain⟨h7,hm7⟩:=HH6.out.flags (ar:=s.around) (ov:=s.over) (dn:=true) kS (HH6.out.box.setAt 14 _);rw[HRES.out];exact dE.of (by simp) h7 (HM6.out.trans hm7) HF.out
  |false=>
   rw[hrb]at HRES;obtain⟨W5,hW5⟩:∃W5,(w1.setCell ⟨p,4,none⟩ (.bool false)).setCell ⟨p,5,none⟩ (.bool false)=W5:=⟨_,rfl⟩;have k5:aB (·= p) w1 W5:=by rw[<-hW5];exact((aB.refl _ _).setCell (.inl (by rfl)) _).setCell (.inl (by rfl)) _
   have bp5:aD W5 p 180 (fB (.slice ta x.tasks.length tc) {x with black:=false,has:=false}):=by rw[<-hW5];exact(hp6.setAt 4 _).setAt 5 _
   obtain⟨h7,hm7⟩:=h6.recells (x':={x with black:=false,has:=false}) (by omega) HP.out hp6 hpp6 HT6.out k5 bp5 rfl;have hs7:cX {s with W:=s.W.set 0 {x with black:=false,has:=false}}:=⟨by simpa using HSS.out.len,HSS.out.two,HSS.out.five,by simpa using HSS.out.llen,fun ls hl=>by simpa using HSS.out.lrow ls hl,HSS.out.way⟩;have hN7:dS N {s with W:=s.W.set 0 {x with black:=false,has:=false}}:=⟨HNN.out.all,HNN.out.known,HNN.out.came,HNN.out.kept,fun y hy=>by
    rcases List.mem_or_eq_of_mem_set hy with h'|rfl
    ·exact HNN.out.sent y h'
    ·exact hxs,fun y hy=>by
    rcases List.mem_or_eq_of_mem_set hy with h'|rfl
    ·exact HNN.out.got y h'
    ·exact hxc⟩
   have HSND:Hid (Calls prog 133 #[.pointer (some ⟨B,0,none⟩),.agg (aG {aH with src:=0,dst:=s.workers - 1,kind:=5})] W5 _):=nA {aH with src:=0,dst:=s.workers - 1,kind:=5} h7 hs7 hN7 (by omega) (by show(0:Int)<=0/\(0:Int) < s.workers;omega) (by show(0:Int)<=s.workers - 1/\s.workers - 1 < s.workers;omega);have HM7:=aC hm7;have c4:=hp6.cell (o:=4) rfl;have c5:=hp6.cell (o:=5) rfl;have g4:=hp6.frozen 4;have g5:=hp6.frozen 5;have d0:W5.cell? ⟨B,0,none⟩=some (.int .i64 s.workers):=h7.box.cell (o:=0) rfl;have a3:IntKind.i64.wrap (s.workers - 1)=s.workers - 1:=IntWalk.i64_in _ (by omega);clear h6 hm6 hp6 h7 hm7 hb1 hrb p0 p2 p3 p4 p5 p15 p17 b0 b6 b12 k5 bp5 hs7 hN7
   go_wp2_with (go_at_call 133;refine HSND.out.mono ?_;rintro e w8 ⟨rfl,part8,yv8,h8,hm8⟩)
   go_ret;rw[HRES.out];exact dE.of (by simp) h8 ((HM6.out.trans HM7.out).trans hm8) HF.out
end Go.Proofs.YtfanaanofjhlkaaGreatDoor
