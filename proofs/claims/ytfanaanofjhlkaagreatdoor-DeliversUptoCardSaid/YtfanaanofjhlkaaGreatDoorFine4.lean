import Derived.Test.YtfanaanofjhlkaaGreatDoorRefPass
import Derived.Test.YtfanaanofjhlkaaGreatDoorXYoung
import Derived.Test.YtfanaanofjhlkaaGreatDoorMarkerV
set_option maxHeartbeats 16000000
set_option maxRecDepth 100000
namespace Go.Proofs.YtfanaanofjhlkaaGreatDoor
open Go Go.RowKit Tryz
def nS(a b:fD):Bool:=a.sent==a.came&&b.sent==b.came&&a.sent==b.sent&&b.idle
def iJ(s:aE):Bool:=match s.answers.getLast? with
 |none=>false
 |some a=>decide (a.many < s.workers)
def jW(s:aE):Bool:=match s.answers.reverse with
 |b :: a :: _=>nS a b
 |_=>false
def eR(n:Int)(s:aE)(k:Nat):aE:=aR s {aH with src:=0,dst:=k,kind:=6,round:=n}
def gD(s:aE):aE×Int:=
 match s.W[0]? with
 |none=>(s,9)
 |some x=>
  if x.tasks≠ []\/iJ s=true then(s,9)
  else if jW s=true then({s with done:=true},0)
  else((List.range' 1 (s.W.length - 1)).foldl (eR (s.answers.length+1)) (dA {s with answers:=s.answers++ [⟨0,0,0,true⟩]} x.sent x.came true),0)
def fJ(s:aE):aE×Int:=if dI s≠0 then(s,dI s)else if s.mode=1 then fP s else gD s
theorem aCn(F:Nat->Prop)(B:Nat)(s:aE)(w:World)(hr:dW F w B s)(x:cF)(hx:s.W[0]?= some x)(hb:x.tasks≠ []\/iJ s=true)(hL:s.answers.length<=100000000) :
  Calls prog 140 #[.pointer (some ⟨B,0,none⟩)] w (dE F w B (s,9)):=by
 have HR:=aC hr;obtain⟨part,hF,hat⟩:=hr;obtain⟨kv,wv,lv,yv,vv,av,ps,rows,h⟩:=hat.opened;obtain⟨p,gw,wc,hp,hwv,hgw,cw,hip,-⟩:=h.ptrW hx;subst hwv;obtain⟨tv,hpb,hpp,htr⟩:=h.wat 0 p x hp hx;obtain⟨ta,tc,htf⟩:=bG htr.1;subst htf;have b0:w.cell? ⟨B,0,none⟩=some (.int .i64 s.workers):=h.box.cell (o:=0) rfl;have b6:w.cell? ⟨B,6,none⟩=some (.slice (some ⟨gw,0,none⟩) ps.length wc):=h.box.cell (o:=6) rfl;have p0:w.cell? ⟨p,0,none⟩=some (.slice ta x.tasks.length tc):=hpb.cell (o:=0) rfl;have i2:(0:Int) < (ps.length:Int):=by omega
 by_cases h4:x.tasks=[]
 case neg=>
  obtain⟨aa,ac,haf⟩:=bG h.arow.1;subst haf;have b11:w.cell? ⟨B,11,none⟩=some (.slice aa s.answers.length ac):=h.box.cell (o:=11) rfl;obtain⟨L,hl⟩:∃L,x.tasks.length=L+1:=⟨x.tasks.length - 1,by have:=List.length_pos_iff.2 h4;omega⟩;rw[hl]at p0;have hl2:(0:Int) < ((L+1:Nat):Int):=by omega
  clear hl h hat hpb htr h4 hb hx;go_enter func140,ntmps140
  go_upto_region 3 with fail
  go_quiet (fail)
  go_wp2_with fail
  go_ret;have hb1:Below w.heap.size w (w.drewN nq):=gB (e_ _ _) nq;exact⟨rfl,(HR.out.later hb1).kept (aB.refl (fun _=>False) _) (fun _ _ h=>⟨fun h=>h,.inl h⟩),aB.of_below hb1 (fun k h1 h2=>absurd h1 (by omega))⟩
 have hop:iJ s=true:=by
  rcases hb with hb|hb
  ·exact absurd h4 hb
  ·exact hb
 obtain⟨L,a,ha,hlt⟩:∃L a,s.answers=L++ [a]/\a.many < s.workers:=by
  rcases List.eq_nil_or_concat s.answers with h9|⟨L,a,h9⟩
  ·simp[iJ,h9]at hop
  ·rw[List.concat_eq_append]at h9
   refine⟨L,a,h9,?_⟩;simpa[iJ,h9]using hop
 have hlen:s.answers.length=L.length+1:=by rw[ha];simp
 obtain⟨ga,ac,hf,-,hgl⟩:=World.ownsRow.form h.arow.1 (by omega);subst hf;have c0:w.cell? ⟨ga,L.length*4,none⟩=some (.int .i64 a.many):=by
  have h9:=h.arow.1.cells (g:=ga) rfl (L.length*4) (.int .i64 a.many) (by
   have:=dZ (sz:=4) (enc:=gG) (fun _=>rfl) s.answers L.length a 0 _ (by rw[ha];simp) rfl;simpa using this)
  rwa [dP]at h9
 have b11:w.cell? ⟨B,11,none⟩=some (.slice (some ⟨ga,0,none⟩) (L.length+1) ac):=by rw[<-hlen];exact h.box.cell (o:=11) rfl
 have hl0:x.tasks.length=0:=by rw[h4];rfl
 rw[hl0]at p0;have w0:IntKind.i64.wrap (((L.length+1:Nat):Int) - 1)=(L.length:Int):=by rw[IntWalk.i64_in _ (by omega)];omega
 have w0':(((L.length+1:Nat):Int) - 1)=(L.length:Int):=by omega
 have j1:(0:Int)<=(L.length:Int):=by omega
 have j2:(L.length:Int) < ((L.length+1:Nat):Int):=by omega
 have j3:(0:Int) < ((L.length+1:Nat):Int):=by omega
 have wL:IntKind.i64.wrap (L.length:Int)=(L.length:Int):=IntWalk.i64_in _ (by omega);have z0:decide ((0:Int) < (0:Int))=false:=by decide
 clear h hat hpb htr h4 hb hx ha hlen hop hl0;go_enter func140,ntmps140
 go_upto_region 3 with fail
 go_quiet (fail)
 go_wp2_with fail
 go_ret;have hb1:Below w.heap.size w (w.drewN nq):=gB (e_ _ _) nq;exact⟨rfl,(HR.out.later hb1).kept (aB.refl (fun _=>False) _) (fun _ _ h=>⟨fun h=>h,.inl h⟩),aB.of_below hb1 (fun k h1 h2=>absurd h1 (by omega))⟩
theorem aHh:(prog.info? 212).map (fun i=>(i.zero,i.size,i.bytes))=some (some (.agg #[.int .i64 0,.int .i64 0,.int .i64 0,.bool false]),4,32):=by kernel_rfl
theorem xL{N:Nat}{s:aE}(n:Int)(h:cX s)(hN:dS N s):∀(l:List Nat),cX (l.foldl (eR n) s)/\dS (N+l.length) (l.foldl (eR n) s)/\(l.foldl (eR n) s).workers=s.workers:=by
 intro l
 induction l generalizing N s with
 |nil=>exact⟨h,hN,rfl⟩
 |cons k r ih=>
  rw[List.foldl_cons];obtain⟨lk,ww,y,he,-⟩:=rI s {aH with src:=0,dst:=(k:Int),kind:=6,round:=n};obtain⟨h1,h2,h3⟩:=ih (N:=N+1) (s:=eR n s k) (h.send _) (hN.send _);refine⟨h1,?_,h3.trans ?_⟩
  ·rw[List.length_cons,show N+(r.length+1)=N+1+r.length by omega];exact h2
  ·unfold eR;rw[he]
theorem aIs(s:aE)(a b:Int)(c:Bool):∃an,dA s a b c={s with answers:=an}:=by
 unfold dA;split
 ·exact⟨s.answers,rfl⟩
 ·exact⟨_,rfl⟩
theorem aHr(q:Nat):List.range' 1 (q+1)=List.range' 1 q++ [q+1]:=by
 rw[List.range'_concat];simp[Nat.add_comm]
theorem aBv(F:Nat->Prop)(B N:Nat)(s:aE)(w:World)(hr:dW F w B s)(hs:cX s)(hN:dS N s)(hN':N<=80000000)(x:cF)(hx:s.W[0]?= some x)(ht:x.tasks=[])(hop:iJ s=false)(hL:s.answers.length<=100000000) :
  Calls prog 140 #[.pointer (some ⟨B,0,none⟩)] w (dE F w B (gD s)):=by
 obtain⟨iA,hiA,hzA0,hzA1,hzA2⟩:=info_parts aHh;have h2:=hs.two;have h5:=hs.five;have hlen:=hs.len;obtain⟨part,hF,hat⟩:=hr;obtain⟨kv,wv,lv,yv,vv,av,ps,rows,h⟩:=hat.opened;obtain⟨p,gw,wc,hp,hwv,hgw,cw,hip,-⟩:=h.ptrW hx;subst hwv;obtain⟨tv,hpb,hpp,htr⟩:=h.wat 0 p x hp hx;obtain⟨ta,tc,htf⟩:=bG htr.1;subst htf;obtain⟨aa,ac,haf⟩:=bG h.arow.1;subst haf;have b0:w.cell? ⟨B,0,none⟩=some (.int .i64 s.workers):=h.box.cell (o:=0) rfl;have b6:w.cell? ⟨B,6,none⟩=some (.slice (some ⟨gw,0,none⟩) ps.length wc):=h.box.cell (o:=6) rfl;have p0:w.cell? ⟨p,0,none⟩=some (.slice ta x.tasks.length tc):=hpb.cell (o:=0) rfl;rw[show x.tasks.length=0 by rw[ht];rfl]at p0;have b11:w.cell? ⟨B,11,none⟩=some (.slice aa s.answers.length ac):=h.box.cell (o:=11) rfl;have i2:(0:Int) < (ps.length:Int):=by omega
 have hbl:=h.box.lt;have HH:=aC h;have HPB:=aC hpb;have HF:=aC hF;have HX:=aC hx;have HSS:=aC hs;have HNN:=aC hN;have hxs:=hN.sent x (d_ hx);have hxc:=hN.got x (d_ hx);have hp0:=hp;have HAC:Hid (∀j a,s.answers[j]?= some a->∃ga,aa=some ⟨ga,0,none⟩/\ga < w.heap.size/\w.cell? ⟨ga,j*4,none⟩=some (.int .i64 a.many)/\w.cell? ⟨ga,j*4+1,none⟩=some (.int .i64 a.sent)/\w.cell? ⟨ga,j*4+2,none⟩=some (.int .i64 a.came)/\w.cell? ⟨ga,j*4+3,none⟩=some (.bool a.idle)):=fun j a hj=>by
  obtain⟨ga,ac',hf,-,hgl⟩:=World.ownsRow.form h.arow.1 (by have:=(c_.1 hj).1;omega);cases hf;have hc:∀o u,(gG a)[o]?= some u->w.cell? ⟨ga,j*4+o,none⟩=some u:=fun o u ho=>by
   have h9:=h.arow.1.cells (g:=ga) rfl _ u (dZ (sz:=4) (enc:=gG) (fun _=>rfl) s.answers j a o u hj ho);rwa [dP]at h9
  exact⟨ga,rfl,hgl,hc 0 _ rfl,hc 1 _ rfl,hc 2 _ rfl,hc 3 _ rfl⟩
 obtain⟨res,hres⟩:∃res,gD s=res:=⟨_,rfl⟩;have HRES:Hid (res=if jW s=true then({s with done:=true},0)else((List.range' 1 (s.W.length - 1)).foldl (eR (s.answers.length+1)) (dA {s with answers:=s.answers++ [⟨0,0,0,true⟩]} x.sent x.came true),0)):=by
  show res=_;rw[<-hres];simp[gD,hx,ht,hop]
 rw[hres];have HOP:=aC hop;obtain⟨n,hn⟩:∃n,s.answers.length=n:=⟨_,rfl⟩;have HNA:=aC hn;rw[hn]at b11 hL;clear h hat hpb htr hF hp hs hN ht hop hres hx hn;go_enter func140,ntmps140
 go_upto_region 3 with fail
 go_cut [45] (fun b wx=>b= .bool false/\Below w.heap.size w wx)
 case first=>
  rcases Nat.eq_zero_or_pos n with hn0|hn0
  ·subst hn0
   go_quiet (fail)
   go_wp2_with fail
   go_meet
   case rel=>exact⟨rfl,gB (e_ _ _) _⟩
  ·obtain⟨L,rfl⟩:∃L,n=L+1:=⟨n - 1,by omega⟩
   obtain⟨a,ha⟩:∃a,s.answers[L]?= some a:=⟨_,b_ (by have:=HNA.out;omega)⟩;obtain⟨ga,rfl,hgl,c0,-⟩:=HAC.out L a ha;have hmany:¬a.many < s.workers:=by
    have h9:=HOP.out;have e:s.answers.getLast?= some a:=by rw[List.getLast?_eq_getElem?,HNA.out];simpa using ha
    simp[iJ,e]at h9;omega
   have w0:IntKind.i64.wrap (((L+1:Nat):Int) - 1)=(L:Int):=by rw[IntWalk.i64_in _ (by omega)];omega
   have wL:IntKind.i64.wrap (L:Int)=(L:Int):=IntWalk.i64_in _ (by omega);have j1:(0:Int)<=(L:Int):=by omega
   have j2:(L:Int) < ((L+1:Nat):Int):=by omega
   have j3:(0:Int) < ((L+1:Nat):Int):=by omega
   have hdm:decide (a.many < s.workers)=false:=by simpa using hmany
   go_quiet (fail)
   go_wp2_with fail
   go_meet
   case rel=>exact⟨by first|rfl|(rw[hdm]),gB (e_ _ _) _⟩
 case rest=>
  obtain⟨rfl,hb1⟩:=hcut
  rename World=>w1
  have HPS:=aC hp0;rcases Nat.lt_or_ge 1 n with hn1|hn1
  case' inl=>
   obtain⟨L,hL2⟩:∃L,n=L+2:=⟨n - 2,by omega⟩;have hnl:=HNA.out;obtain⟨a,ha⟩:∃a,s.answers[L]?= some a:=⟨_,b_ (by omega)⟩;obtain⟨b,hb⟩:∃b,s.answers[L+1]?= some b:=⟨_,b_ (by omega)⟩;have htw:jW s=nS a b:=by
    have e:s.answers.drop L=[a,b]:=by
     rw[List.drop_eq_getElem_cons (by omega),List.drop_eq_getElem_cons (by omega),List.drop_eq_nil_of_le (by omega),(c_.1 ha).2,(c_.1 hb).2]
    unfold jW;rw[<-List.take_append_drop L s.answers,e];simp
   obtain⟨ga,hga,hgl,a0,a1,a2,a3⟩:=HAC.out L a ha;obtain⟨gb,hgb,-,c0,c1,c2,c3⟩:=HAC.out (L+1) b hb;obtain rfl:ga=gb:=by rw[hga]at hgb;simpa using hgb
   have e11:w1.cell? ⟨B,11,none⟩=some (.slice (some ⟨ga,0,none⟩) (L+2) ac):=by rw[<-hga,<-hL2];exact(hb1.cell (p:=⟨B,11,none⟩) hbl).trans b11
   have a0':=(hb1.cell (p:=⟨ga,L*4,none⟩) hgl).trans a0;have a1':=(hb1.cell (p:=⟨ga,L*4+1,none⟩) hgl).trans a1;have a2':=(hb1.cell (p:=⟨ga,L*4+2,none⟩) hgl).trans a2;have a3':=(hb1.cell (p:=⟨ga,L*4+3,none⟩) hgl).trans a3;have c0':=(hb1.cell (p:=⟨ga,(L+1)*4,none⟩) hgl).trans c0;have c1':=(hb1.cell (p:=⟨ga,(L+1)*4+1,none⟩) hgl).trans c1;have c2':=(hb1.cell (p:=⟨ga,(L+1)*4+2,none⟩) hgl).trans c2;have c3':=(hb1.cell (p:=⟨ga,(L+1)*4+3,none⟩) hgl).trans c3;have hg1:ga < w1.heap.size:=Nat.lt_of_lt_of_le hgl hb1.size;have hB1:B < w1.heap.size:=Nat.lt_of_lt_of_le hbl hb1.size;have v1:IntKind.i64.wrap (L:Int)=(L:Int):=IntWalk.i64_in _ (by omega);have v2:IntKind.i64.wrap ((L:Int)+1)=(L:Int)+1:=IntWalk.i64_in _ (by omega);have v3:IntKind.i64.wrap (((L+2:Nat):Int) - 2)=(L:Int):=by rw[IntWalk.i64_in _ (by omega)];omega
   have v4:IntKind.i64.wrap (((L+2:Nat):Int) - 1)=(L:Int)+1:=by rw[IntWalk.i64_in _ (by omega)];omega
   have v5:((L:Int)+2 - 1)=(L:Int)+1:=by omega
   have k1:(0:Int)<=(L:Int):=by omega
   have k2:(L:Int) < ((L+2:Nat):Int):=by omega
   have k3:(0:Int)<=(L:Int)+1:=by omega
   have k4:(L:Int)+1 < ((L+2:Nat):Int):=by omega
   have k5:(1:Int) < ((L+2:Nat):Int):=by omega
   have k6:(1:Int) < (L:Int)+2:=by omega
   rw[htw]at HRES;rw[hL2];have HHB:=aC hb1;clear a0 a1 a2 a3 c0 c1 c2 c3 hga hgb htw hb1 hnl
   go_upto_region 8 with fail
   obtain⟨W7,hW7⟩:∃W7,(w1.alloc (Obj.cells #[.int .i64 a.many,.int .i64 a.sent,.int .i64 a.came,.bool a.idle] 212)).alloc (Obj.cells #[.int .i64 b.many,.int .i64 b.sent,.int .i64 b.came,.bool b.idle] 212)=W7:=⟨_,rfl⟩;have bA:aD W7 w1.heap.size 212 #[.int .i64 a.many,.int .i64 a.sent,.int .i64 a.came,.bool a.idle]:=by rw[<-hW7];exact(aD.new w1 _ _).alloc _
   have bB:aD W7 (w1.heap.size+1) 212 #[.int .i64 b.many,.int .i64 b.sent,.int .i64 b.came,.bool b.idle]:=by rw[<-hW7];exact fM _ _ _ _ (by simp)
   have hb2:Below w.heap.size w W7:=by rw[<-hW7];exact(HHB.out.alloc HHB.out.size _).alloc (by simp;have:=HHB.out.size;omega) _
   rw[hW7];clear hW7 a0' a1' a2' a3' c0' c1' c2' c3';have s1:=bA.cell (o:=1) rfl;have s2:=bA.cell (o:=2) rfl;have t1:=bB.cell (o:=1) rfl;have t2:=bB.cell (o:=2) rfl;have t3:=bB.cell (o:=3) rfl;clear bA bB;have HB2:=aC hb2;clear hb2
   go_cut [86] (fun v wx=>v= .bool (nS a b)/\W7=wx)
   case first=>
    obtain⟨asn,hasn⟩:∃z,a.sent=z:=⟨_,rfl⟩;obtain⟨acm,hacm⟩:∃z,a.came=z:=⟨_,rfl⟩;obtain⟨bsn,hbsn⟩:∃z,b.sent=z:=⟨_,rfl⟩;obtain⟨bcm,hbcm⟩:∃z,b.came=z:=⟨_,rfl⟩;have HAL:Hid (nS a b=(asn==acm&&bsn==bcm&&asn==bsn&&b.idle)):=by show _=_;rw[<-hasn,<-hacm,<-hbsn,<-hbcm];rfl
    rw[hasn]at s1;rw[hacm]at s2;rw[hbsn]at t1;rw[hbcm]at t2;clear hasn hacm hbsn hbcm;by_cases e1:asn=acm
    ·subst e1
     by_cases e2:bsn=bcm
     ·subst e2
      by_cases e3:asn=bsn
      ·subst e3
       go_wp2_with fail
       go_meet
       case rel=>exact⟨by rw[HAL.out];simp,rfl⟩
      ·have f3:(asn==bsn)=false:=by rw[g_];exact e3
       clear e3
       go_wp2_with fail
       go_meet
       case rel=>exact⟨by rw[HAL.out];simp[f3],rfl⟩
     ·have f2:(bsn==bcm)=false:=by rw[g_];exact e2
      clear e2
      go_wp2_with fail
      go_meet
      case rel=>exact⟨by rw[HAL.out];simp[f2],rfl⟩
    ·have f1:(asn==acm)=false:=by rw[g_];exact e1
     clear e1
     go_wp2_with fail
     go_meet
     case rel=>exact⟨by rw[HAL.out];simp[f1],rfl⟩
   obtain⟨rfl,rfl⟩:=hcut;rw[<-hL2];cases hal:nS a b
   case' true=>
    rw[hal]at HRES;obtain⟨h3,hm3⟩:=HH.out.later HB2.out;have c14:=h3.box.cell (o:=14) rfl;have f14:=h3.box.frozen 14;have HH3:=aC h3;have HM3:=aC hm3;clear h3 hm3 hal
    go_wp2_with fail
    go_ret;have kS:aB (·= B) W7 (W7.setCell ⟨B,14,none⟩ (.bool true)):=(aB.refl _ _).setCell (.inl (by rfl)) _;obtain⟨h7,hm7⟩:=HH3.out.flags (ar:=s.around) (ov:=s.over) (dn:=true) kS (HH3.out.box.setAt 14 _);rw[HRES.out];exact dE.of (by simp) h7 (HM3.out.trans hm7) HF.out
   rw[hal]at HRES;have hb2:=HB2.out;clear hal s1 s2 t1 t2 t3 e11 hL2 v1 v2 v3 v4 v5 k1 k2 k3 k4 k5 k6
   go_upto_region 11 with fail
   obtain⟨W2,hW⟩:∃W2,W7=W2:=⟨_,rfl⟩;rw[hW]at hb2;rw[hW];clear hW
  case' inr=>
   have htw:jW s=false:=by
    have h9:=HNA.out;unfold jW
    match hq:s.answers.reverse with
    |[]=>rfl
    |[_]=>rfl
    |a :: b :: r=>
     have h8:s.answers.reverse.length=n:=by simpa using h9
     rw[hq]at h8;simp at h8;omega
   rw[htw]at HRES;have j1:¬(1:Int) < (n:Int):=by omega
   have j1':decide ((1:Int) < (n:Int))=false:=by simpa using j1
   have hb2:=hb1
   go_upto_region 11 with fail
   obtain⟨W2,hW⟩:∃W2,w1=W2:=⟨_,rfl⟩;subst hW;obtain⟨W2,hW⟩:∃W2,w1=W2:=⟨_,rfl⟩;rw[hW]at hb2 hb1;rw[hW];clear hW hb1
  all_goals
   have hW2:=hb2;clear hb2;obtain⟨h3,hm3⟩:=HH.out.later hW2;have HH3:=aC h3;have HM3:=aC hm3;have HRA:Hid (W2.ownsRow 0 212 4 (.slice aa n ac) n (s.answers.flatMap gG)):=by have h9:=h3.arow.1;rw[HNA.out]at h9;exact h9
   have d11:W2.cell? ⟨B,11,none⟩=some (.slice aa n ac):=by rw[<-HNA.out];exact h3.box.cell (o:=11) rfl
   have g11:=h3.box.frozen 11;have hbz:B < W2.heap.size:=h3.box.lt;have HNE:Hid ((Value.slice aa n ac).ownBlock≠some B):=by rw[<-HNA.out];exact bF h3.arow.1 h3.box (by decide)
   have HBX:=aC h3.box;clear h3 hm3 hW2
   go_upto_region 12 with(at_builtin;refine wpList_append_lies _ rfl _ _ _ rfl 0 212 iA _ 4 32 underlying139 hiA hzA0 hzA1 hzA2 rfl (by omega) (.slice aa n ac) n (s.answers.flatMap gG) rfl (HRA.out.alloc _) ⟨W2.heap.size,0,none⟩ 1 1 (gG ⟨0,0,0,true⟩) rfl rfl (World.news_of_block (cs:=#[.int .i64 0,.int .i64 0,.int .i64 0,.bool true]) (t:=212) (fr:=(0,0)) (heap_alloc_new W2 _)) (by simp[gG,Value.oneCell']) (by omega) (by unfold maxLen;omega) (by omega) (by simp) (W2.heap.size+1) (by simp) ?_;intro g cp w3 hown3 hgrow3 hat3 hlt3;have hbx:aD w3 B 141 _:=(hgrow3.block B (by simp;omega) (fun e=>HNE.out e.symm)).trans (HBX.out.alloc _);have c11:=hbx.cell (o:=11) rfl;have e11:=hbx.frozen 11)
   have kG:aB (fun g=>g=B\/ext w part 0 g=4) W2 w3:=(aB.alloc _ W2 _).trans (aB.grown hgrow3 (fun r e=> .inr (HH3.out.arow.2 r (by rw[HNA.out];exact e))));have kS:aB (·= B) w3 (w3.setCell ⟨B,11,none⟩ (.slice (some ⟨g,0,none⟩) (n+1) cp)):=(aB.refl _ _).setCell (.inl (by rfl)) _;obtain⟨h4,hm4⟩:=HH3.out.reans (ans':=s.answers++ [⟨0,0,0,true⟩]) (kG.trans (kS.mono (fun _ _ h=> .inl h))) (hbx.setAt 11 _) (by
    rw[List.flatMap_append,f_,List.length_singleton,HNA.out];simpa using aP hown3 kS (fun g' e h=>by subst h;exact bF hown3 hbx (by decide) e) (a_ _)) (fun g' e=>by
    obtain rfl:g=g':=by simpa[Value.ownBlock]using e
    rcases hat3 with h|h
    ·exact .inl ⟨HH3.out.arow.2 g (by rw[HNA.out];exact h),(HH3.out.arow.1.lt g (by rw[HNA.out];exact h)).2⟩
    ·exact .inr (by omega))
   obtain⟨W4,hW4⟩:∃W4,w3.setCell ⟨B,11,none⟩ (.slice (some ⟨g,0,none⟩) (n+1) cp)=W4:=⟨_,rfl⟩;rw[hW4]at h4 hm4;rw[hW4];have HM4:=aC (HM3.out.trans hm4);obtain⟨tv4,hp4,-,-⟩:=h4.wat 0 p x HPS.out HX.out;have q2:W4.cell? ⟨p,2,none⟩=some (.int .i64 x.sent):=hp4.cell (o:=2) rfl;have q3:W4.cell? ⟨p,3,none⟩=some (.int .i64 x.came):=hp4.cell (o:=3) rfl;have HNT:Hid (Calls prog 182 #[.pointer (some ⟨B,0,none⟩),.int .i64 x.sent,.int .i64 x.came,.bool true] W4.drew fun e w'=>e= .returned (.tuple #[])/\∃part' av',bE part' w' B (dA {s with answers:=s.answers++ [⟨0,0,0,true⟩]} x.sent x.came true) kv (.slice (some ⟨gw,0,none⟩) ps.length wc) lv yv vv av' ps rows/\cI part part' w w'):=by
    obtain⟨h8,hm8⟩:=h4.later (Below.drew (e_ _ W4));refine(wK h8 s.answers ⟨0,0,0,true⟩ rfl (by have:=HNA.out;omega) x.sent x.came true (by dsimp only;omega) (by dsimp only;omega) (by dsimp only;omega)).mono ?_;rintro e w' ⟨rfl,part',av',h2,hm2⟩;exact⟨rfl,part',av',h2,(HM4.out.trans hm8).trans hm2⟩
   clear hW4 h4 hm4 hp4 kG kS hown3 hgrow3 hat3 hlt3 hbx c11 e11 d11 g11
   go_still_tail 9,(by kernel_rfl)
   go_wp2_with (go_at_call 182;refine HNT.out.mono ?_;rintro e w5 ⟨rfl,part5,av5,h5',hm5⟩)
   obtain⟨an,hnt⟩:=aIs {s with answers:=s.answers++ [⟨0,0,0,true⟩]} x.sent x.came true;obtain⟨s2,hs2⟩:∃s2,dA {s with answers:=s.answers++ [⟨0,0,0,true⟩]} x.sent x.came true=s2:=⟨_,rfl⟩;rw[hs2]at h5' HRES hnt;have hw2:s2.workers=s.workers:=by rw[hnt]
   have hsh2:cX s2:=by rw[hnt];exact⟨HSS.out.len,HSS.out.two,HSS.out.five,HSS.out.llen,HSS.out.lrow,HSS.out.way⟩
   have hsm2:dS N s2:=by rw[hnt];exact⟨HNN.out.all,HNN.out.known,HNN.out.came,HNN.out.kept,HNN.out.sent,HNN.out.got⟩
   rw[HNA.out]at HRES;have H5:=aC h5';have HM5:=aC hm5;have HW2:=aC hw2;have HSH2:=aC hsh2;have HSM2:=aC hsm2;clear hnt hs2 hw2 hsh2 hsm2 h5' hm5 q2 q3
   go_loopw [7] (fun iv wr=>∃(q:Nat) (part':Nat->Nat) (yv':Value),iv= .int .i64 ((q+1:Nat):Int)/\q+1<=s.W.length/\bE part' wr B ((List.range' 1 q).foldl (eR ((n:Int)+1)) s2) kv (.slice (some ⟨gw,0,none⟩) ps.length wc) lv yv' vv av5 ps rows/\cI part part' w wr) (fun iv _=>s.W.length - (intOf iv).toNat)
   case atStart=>exact⟨0,part5,yv,rfl,by omega,H5.out,HM5.out⟩
   case round=>
    obtain⟨q,part',yv',rfl,hq,h6,hm6⟩:=hrel
    rename World=>wr
    obtain⟨hsh,hsm,hwq⟩:=xL ((n:Int)+1) HSH2.out HSM2.out (List.range' 1 q);obtain⟨s',hs'⟩:∃s',(List.range' 1 q).foldl (eR ((n:Int)+1)) s2=s':=⟨_,rfl⟩;rw[hs']at h6 hsh hsm hwq;have r0:wr.cell? ⟨B,0,none⟩=some (.int .i64 s.workers):=by rw[<-HW2.out,<-hwq];exact h6.box.cell (o:=0) rfl
    have HM6:=aC hm6;have HH6:=aC h6;have HS':=aC hs';have a1:IntKind.i64.wrap ((n:Int)+1)=(n:Int)+1:=IntWalk.i64_in _ (by omega);by_cases hlt:q+1 < s.W.length
    ·have HNX:Hid ((List.range' 1 (q+1)).foldl (eR ((n:Int)+1)) s2=aR s' {aH with src:=0,dst:=((q+1:Nat):Int),kind:=6,round:=(n:Int)+1}):=by
      show _=_;rw[aHr,List.foldl_append,hs'];rfl
     have j2:(((q+1:Nat):Int)) < s.workers:=by omega
     have j3:(q:Int)+1 < s.workers:=by omega
     have a2:IntKind.i64.wrap ((q:Int)+1+1)=(q:Int)+1+1:=IntWalk.i64_in _ (by omega);have HSND:Hid (Calls prog 133 #[.pointer (some ⟨B,0,none⟩),.agg (aG {aH with src:=0,dst:=((q+1:Nat):Int),kind:=6,round:=(n:Int)+1})] wr _):=nA {aH with src:=0,dst:=((q+1:Nat):Int),kind:=6,round:=(n:Int)+1} h6 hsh hsm (by rw[List.length_range'];omega) (by show(0:Int)<=0/\(0:Int) < s'.workers;rw[hwq,HW2.out];omega) (by show(0:Int)<=((q+1:Nat):Int)/\((q+1:Nat):Int) < s'.workers;rw[hwq,HW2.out];omega);clear h6 hm6 hsh hsm hwq hs'
     go_wp2_with (go_at_call 133;refine HSND.out.mono ?_;rintro e w8 ⟨rfl,part8,yv8,h8,hm8⟩)
     go_roundw
     case rel=>exact⟨q+1,part8,yv8,by go_num,by omega,by rw[HNX.out];exact h8,HM6.out.trans hm8⟩
     case measure=>simp[intOf];omega
    ·have HQ:Hid (q=s.W.length - 1):=by show _=_;omega
     have j2:¬(((q+1:Nat):Int)) < s.workers:=by omega
     have j3:¬(q:Int)+1 < s.workers:=by omega
     clear h6 hm6 hsh hsm hwq hs'
     go_wp2_with fail
     go_ret;rw[HRES.out];refine dE.of (s':=s') ?_ HH6.out HM6.out HF.out;rw[<-HS'.out,HQ.out];simp
theorem aEf(w:World):Calls prog 80 #[.pointer none] w fun e w'=>e= .returned (.int .i64 1)/\w'=w:=by
 go_enter func80,ntmps80
 go_wp2_with (go_at_call 138;refine(sQ w).mono ?_;rintro e w1 ⟨rfl,rfl⟩)
 go_ret;exact⟨rfl,rfl⟩
theorem aBr(F:Nat->Prop)(B N:Nat)(s:aE)(w:World)(hr:dW F w B s)(hs:cX s)(hN:dS N s)(hN':N<=80000000)(hL:s.answers.length<=100000000) :
  Calls prog 140 #[.pointer (some ⟨B,0,none⟩)] w (dE F w B (gD s)):=by
 have h2:=hs.two;have hlen:=hs.len;obtain⟨x,hx⟩:∃x,s.W[0]?= some x:=⟨_,b_ (by omega)⟩;by_cases hb:x.tasks≠ []\/iJ s=true
 ·have he:gD s=(s,9):=by simp[gD,hx,hb]
  rw[he];exact aCn F B s w hr x hx hb hL
 ·have ht:x.tasks=[]:=by
   by_cases h:x.tasks=[]
   ·exact h
   ·exact absurd (.inl h) hb
  have ho:iJ s=false:=by
   cases h:iJ s with
   |false=>rfl
   |true=>exact absurd (.inr h) hb
  exact aBv F B N s w hr hs hN hN' x hx ht ho hL
theorem aAy(F:Nat->Prop)(B N:Nat)(s:aE)(w:World)(hr:dW F w B s)(hs:cX s)(hN:dS N s)(hN':N<=80000000)(hc:∀x∈s.W,-100000000000000000<=x.token.count/\x.token.count<=100000000000000000)(hL:s.answers.length<=100000000) :
  Calls prog 80 #[.pointer (some ⟨B,0,none⟩)] w (dE F w B (fJ s)):=by
 have HB:Hid (Calls prog 138 #[.pointer (some ⟨B,0,none⟩)] w fun e w'=>e= .returned (.int .i64 (dI s))/\w=w'):=(sH F B s w hr).mono fun e w' h=>⟨h.1,h.2.symm⟩
 have HR:=aC hr;have HRI:Hid (Calls prog 139 #[.pointer (some ⟨B,0,none⟩)] w (dE F w B (fP s))):=aCp F B N s w hr hs hN (by omega) hc;have HWA:Hid (Calls prog 140 #[.pointer (some ⟨B,0,none⟩)] w (dE F w B (gD s))):=aBr F B N s w hr hs hN hN' hL;obtain⟨part,hF,hat⟩:=hr;obtain⟨kv,wv,lv,yv,vv,av,ps,rows,h⟩:=hat.opened;have b2:w.cell? ⟨B,2,none⟩=some (.int .i64 s.mode):=h.box.cell (o:=2) rfl;clear h hat hF hs hN hc;by_cases h1:dI s=0
 case neg=>
  have HS:Hid (fJ s=(s,dI s)):=by show _=_;simp[fJ,h1]
  obtain⟨e1,he1⟩:∃e1,dI s=e1:=⟨_,rfl⟩;rw[he1]at HB h1 HS;have hb:(e1==0)=false:=by rw[g_];exact h1
  clear he1 h1;go_enter func80,ntmps80
  go_wp2_with (go_at_call 138;refine HB.out.mono ?_;rintro e w1 ⟨rfl,rfl⟩)
  go_ret;rw[HS.out];exact dE.same HR.out _
 rw[h1]at HB;obtain⟨md,hmd⟩:∃md,s.mode=md:=⟨_,rfl⟩;rw[hmd]at b2;by_cases h2:md=1
 ·have HS:Hid (fJ s=fP s):=by show _=_;simp[fJ,h1,hmd,h2]
  subst h2;clear h1 hmd;go_enter func80,ntmps80
  go_wp2_with (first
   |(go_at_call 138;refine HB.out.mono ?_;rintro e w1 ⟨rfl,rfl⟩)
   |(go_at_call 139;refine HRI.out.mono ?_;rintro e w1 ⟨rfl,hr1,hk1⟩))
  go_ret;rw[HS.out];exact⟨rfl,hr1,hk1⟩
 ·have HS:Hid (fJ s=gD s):=by show _=_;simp[fJ,h1,hmd,h2]
  have hb:(md==1)=false:=by rw[g_];exact h2
  clear h1 hmd h2;go_enter func80,ntmps80
  go_wp2_with (first
   |(go_at_call 138;refine HB.out.mono ?_;rintro e w1 ⟨rfl,rfl⟩)
   |(go_at_call 140;refine HWA.out.mono ?_;rintro e w1 ⟨rfl,hr1,hk1⟩))
  go_ret;rw[HS.out];exact⟨rfl,hr1,hk1⟩
structure uB(s:aE)(m:aI):Prop where
 shape:cX s
 small:∃N,N<=90000000/\dS N s
 src:0<=m.src/\m.src < s.workers
 dst:0<=m.dst/\m.dst < s.workers
 few:∀x∈s.W,x.tasks.length<=100000000
 vals:s.values.length<=90000000
 kind:1<=m.kind/\m.kind<=7
 told:m.kind=7->∃L a,s.answers=L++ [a]/\L.length<=100000000/\(-1000000000000000<=a.many/\a.many<=1000000000000000)/\(-1000000000000000000<=a.sent+m.sent/\a.sent+m.sent<=1000000000000000000)/\(-1000000000000000000<=a.came+m.came/\a.came+m.came<=1000000000000000000)
theorem aEg(m:aI){part:Nat->Nat}{w:World}{B:Nat}{s:aE}{kv wv lv yv vv av:Value}{ps:List Nat}{rows:List (Value×List Nat)}(h:bE part w B s kv wv lv yv vv av ps rows)(hr:uB s m) :
  Calls prog 137 #[.pointer (some ⟨B,0,none⟩),.agg (aG m)] w fun e w'=>e= .returned (.tuple #[])/\∃part' yv' vv' av',bE part' w' B (aX s m) kv wv lv yv' vv' av' ps rows/\cI part part' w w':=by
 obtain⟨N,hN',hN⟩:=hr.small;have hk:=hr.kind;by_cases h1:m.kind=1
 ·obtain⟨i,x,hi,hx,-⟩:=hr.shape.worker hr.dst.1 hr.dst.2
  have hx':s.W[m.dst.toNat]?= some x:=by rw[hi];simpa using hx
  cases ht:x.tasks with
  |nil=>exact aCb m h hr.shape hN hN' hr.src hr.dst (fun y hy=>by rw[hx']at hy;cases hy;exact ht) h1
  |cons t r=>exact aCq m h hr.shape hN hN' hr.src hr.dst hr.few t r (fun y hy=>by rw[hx']at hy;cases hy;exact ht) h1
 by_cases h2:m.kind=2
 ·exact aCg m h hr.shape hN hN' hr.dst hr.few h2
 by_cases h3:m.kind=3
 ·exact aDf m h hr.shape hr.dst h3
 by_cases h4:m.kind=4
 ·exact aBk m h hr.shape hN hN' hr.dst hr.vals h4
 by_cases h5:m.kind=5
 ·exact aCe m h hr.shape hr.dst h5
 by_cases h6:m.kind=6
 ·exact aDg m h hr.shape hN hN' hr.dst h6
 ·obtain⟨L,a,ha,hL,g1,g2,g3⟩:=hr.told (by omega)
  exact aBp m h hr.shape hr.dst L a ha hL g1 g2 g3 (by omega)
def aF(s:aE)(i j:Nat):aO:=(s.links[i]?.getD [])[j]?.getD cN
def aZ(s:aE)(i j:Nat)(l:aO):aE:={s with links:=s.links.set i ((s.links[i]?.getD []).set j l)}
def fU(s:aE)(i j:Nat):aE:=aX (aZ s i j {aF s i j with came:=(aF s i j).came+1}) ((aF s i j).all[(aF s i j).came.toNat]?.getD aH)
def fQ:Nat->aE->Nat->Nat->aE
 |0,s,_,_=>s
 |f+1,s,i,j=>if gM (aF s i j)=true then fQ f (fU s i j) i j else s
structure rG(s:aE)(i j:Nat):Prop where
 shape:cX s
 few:(aF s i j).kept.length<=1000000000
 came:0<=(aF s i j).came/\(aF s i j).came<=1000000000000
def nW:Nat->aE->Nat->Nat->Prop
 |0,s,i,j=>rG s i j/\gM (aF s i j)=false
 |f+1,s,i,j=>rG s i j/\(gM (aF s i j)=true->(aF s i j).came < ((aF s i j).all.length:Int)/\uB (aZ s i j {aF s i j with came:=(aF s i j).came+1}) ((aF s i j).all[(aF s i j).came.toNat]?.getD aH)/\nW f (fU s i j) i j)
def bI(l:aO)(n:Int):aO:=if l.came < n/\n<=l.came+4/\l.kept.any (·== n)=false then{l with kept:=l.kept++ [n]}else l
def eB(s:aE)(k:Int):aE×Int:=
 if eP s k≠0 then(s,eP s k)else
  let m:=s.way[k.toNat]?.getD aH
  let s1:={s with way:=s.way.take k.toNat++s.way.drop (k.toNat+1)}
  if m.kind=0 then
   (if(aF s1 m.dst.toNat m.src.toNat).known < m.no then aZ s1 m.dst.toNat m.src.toNat {aF s1 m.dst.toNat m.src.toNat with known:=m.no}else s1,0)
  else
   let i:=m.src.toNat
   let j:=m.dst.toNat
   let s2:=aZ s1 i j (bI (aF s1 i j) m.no)
   let s3:=fQ ((aF s1 i j).all.length+1) s2 i j
   (cB s3 {aH with src:=m.dst,dst:=m.src,kind:=0,no:=(aF s3 i j).came},0)
theorem sG{ks:List aS}{kind arg:Int}(hp:cD ks kind arg=true){t:aL}(hG:gO ks t/\t.arg<=12):∀c∈aW ks t,gO ks c/\c.arg<=12:=by
 intro c hc;obtain⟨⟨h0,h1,h2,h3⟩,h4⟩:=hG;obtain⟨j,cK,hj,hcc,hka,hl3,hkids,-,-⟩:=xJ hp h0 h1;unfold aW at hc;rw[hka]at hc;obtain⟨d,hd,m,rfl,hle⟩:=pZ hc;obtain⟨g1,g2,g3,g4⟩:=hkids d hd;refine⟨⟨g3,g4,?_,?_⟩,?_⟩
 ·dsimp only;omega
 ·dsimp only
  rw[yA];omega
 ·dsimp only;omega
structure jQ(ks:List aS)(ans:Prop)(N i j n:Nat)(m:aI):Prop where
 src:m.src=i
 dst:m.dst=j
 ne:i≠j
 no:m.no=n+1
 kind:1<=m.kind/\m.kind<=7
 task:m.kind=2->gO ks m.t/\m.t.arg<=12
 told:m.kind=6\/m.kind=7->ans
 wave:m.kind=6->i=0
 rep:m.kind=7->j=0
 nums:0<=m.sent/\m.sent<=1000000000/\0<=m.came/\m.came<=1000000000/\ -((N:Int)*1000000000)<=m.count/\m.count<=(N:Int)*1000000000
structure nR(ks:List aS)(ans:Prop)(N i j:Nat)(l:aO):Prop where
 msgs:∀n m,l.all[n]?= some m->jQ ks ans N i j n m
 all:l.all.length<=N
 known:0<=l.known/\l.known<=l.all.length
 came:0<=l.came/\l.came<=l.all.length
 kept:∀n∈l.kept,1<=n/\n<=l.all.length/\n<=l.came+4
 klen:l.kept.length<=N
structure kH(ks:List aS)(N:Nat)(x:cF):Prop where
 few:x.tasks.length<=20+N
 good:∀t∈x.tasks,gO ks t/\t.arg<=12
 sent:0<=x.sent/\x.sent<=N
 came:0<=x.came/\x.came<=N
 tok: -((N:Int)*1000000000)<=x.token.count/\x.token.count<=(N:Int)*1000000000
structure pV(N:Nat)(a:fD):Prop where
 many:0<=a.many/\a.many<=N
 sent:0<=a.sent/\a.sent<=(N:Int)*1000000000
 came:0<=a.came/\a.came<=(N:Int)*1000000000
structure rS(s:aE)(m:aI):Prop where
 src:0<=m.src/\m.src < s.workers
 dst:0<=m.dst/\m.dst < s.workers
 kind:0<=m.kind/\m.kind<=7
 ack:m.kind=0->0<=m.no/\m.no<=(aF s m.dst.toNat m.src.toNat).all.length
 sent:m.kind≠0->∃n:Nat,m.no=n+1/\(aF s m.src.toNat m.dst.toNat).all[n]?= some m
structure aN(N:Nat)(s:aE):Prop where
 len:(s.W.length:Int)=s.workers
 two:2<=s.workers
 five:s.workers<=5
 llen:s.links.length=s.W.length
 lrow:∀ls∈s.links,ls.length=s.W.length
 w60:s.way.length<=60
 rmin:1<=s.room
 rmax:s.room<=20
 prog:cD s.ks s.kind s.arg=true
 works:∀x∈s.W,kH s.ks N x
 links:∀i j,i < s.W.length->j < s.W.length->nR s.ks (s.answers≠ []) N i j (aF s i j)
 ways:∀m∈s.way,rS s m
 vals:s.values.length<=N
 alen:s.answers.length<=N
 ans:∀a∈s.answers,pV N a
theorem jQ.more{ks:List aS}{ans ans':Prop}{N N' i j n:Nat}{m:aI}(h:jQ ks ans N i j n m)(hN:N<=N')(ha:ans->ans'):jQ ks ans' N' i j n m:=
 ⟨h.src,h.dst,h.ne,h.no,h.kind,h.task,fun e=>ha (h.told e),h.wave,h.rep,by have:=h.nums;omega⟩
theorem nR.more{ks:List aS}{ans ans':Prop}{N N' i j:Nat}{l:aO}(h:nR ks ans N i j l)(hN:N<=N')(ha:ans->ans'):nR ks ans' N' i j l:=
 ⟨fun n m e=>(h.msgs n m e).more hN ha,Nat.le_trans h.all hN,h.known,h.came,h.kept,Nat.le_trans h.klen hN⟩
theorem kH.more{ks:List aS}{N N':Nat}{x:cF}(h:kH ks N x)(hN:N<=N'):kH ks N' x:=
 ⟨by have:=h.few;omega,h.good,by have:=h.sent;omega,by have:=h.came;omega,by have:=h.tok;omega⟩
theorem pV.more{N N':Nat}{a:fD}(h:pV N a)(hN:N<=N'):pV N' a:=⟨by have:=h.many;omega,by have:=h.sent;omega,by have:=h.came;omega⟩
theorem aN.more{N N':Nat}{s:aE}(h:aN N s)(hN:N<=N'):aN N' s:=
 ⟨h.len,h.two,h.five,h.llen,h.lrow,h.w60,h.rmin,h.rmax,h.prog,fun x hx=>(h.works x hx).more hN,fun i j hi hj=>(h.links i j hi hj).more hN id,h.ways,Nat.le_trans h.vals hN,Nat.le_trans h.alen hN,fun a ha=>(h.ans a ha).more hN⟩
theorem mH{s:aE}{i j:Nat}(l:aO)(hl:s.links.length=s.W.length)(hr:∀ls∈s.links,ls.length=s.W.length)(hi:i < s.W.length)(hj:j < s.W.length)(a b:Nat) :
  aF (aZ s i j l) a b=if a=i/\b=j then l else aF s a b:=by
 have h1:s.links[i]?= some s.links[i]:=b_ (by omega);have h2:=hr _ (d_ h1);unfold aF aZ;dsimp only;rw[List.getElem?_set];by_cases ha:i=a
 ·subst ha
  rw[if_pos rfl,if_pos (by omega),h1];simp only[Option.getD_some,true_and];rw[List.getElem?_set];by_cases hb:j=b
  ·subst hb
   rw[if_pos rfl,if_pos (by omega),if_pos rfl];rfl
  ·rw[if_neg hb,if_neg (fun e=>hb e.symm)]
 ·rw[if_neg ha,if_neg (fun e=>ha e.1.symm)]
theorem aGy{s:aE}{i j:Nat}(l:aO)(hr:∀ls∈s.links,ls.length=s.W.length)(hl:s.links.length=s.W.length)(hi:i < s.W.length):∀ls∈(aZ s i j l).links,ls.length=s.W.length:=fun ls h=>by
 rcases List.mem_or_eq_of_mem_set h with h'|rfl
 ·exact hr ls h'
 ·rw[List.length_set,b_ (show i < s.links.length by omega)]
  exact hr _ (List.getElem_mem _)
theorem aN.relink{N N':Nat}{s:aE}(h:aN N s){i j:Nat}(hi:i < s.W.length)(hj:j < s.W.length){l:aO}{L:List aI}(hL:l.all=(aF s i j).all++L)(hl:nR s.ks (s.answers≠ []) N' i j l)(hN:N<=N'):aN N' (aZ s i j l):=by
 have h':=h.more hN;have hset:=mH l h.llen h.lrow hi hj;have hpre:∀a b,∃M,(aF (aZ s i j l) a b).all=(aF s a b).all++M:=fun a b=>by
  rw[hset];split
  ·rename_i e
   obtain⟨rfl,rfl⟩:=e;exact⟨L,hL⟩
  ·exact⟨[],by simp⟩
 refine⟨h.len,h.two,h.five,?_,aGy l h.lrow h.llen hi,h.w60,h.rmin,h.rmax,h.prog,h'.works,fun a b ha hb=> ?_,fun m hm=> ?_,h'.vals,h'.alen,h'.ans⟩
 ·show(s.links.set i _).length=s.W.length
  rw[List.length_set];exact h.llen
 ·rw[hset]
  split
  ·rename_i e
   obtain⟨rfl,rfl⟩:=e;exact hl
  ·exact h'.links a b ha hb
 ·have hw:=h.ways m hm
  refine⟨hw.src,hw.dst,hw.kind,fun e=> ?_,fun e=> ?_⟩
  ·obtain⟨M,hM⟩:=hpre m.dst.toNat m.src.toNat
   have:=hw.ack e;rw[hM,f_];omega
  ·obtain⟨M,hM⟩:=hpre m.src.toNat m.dst.toNat
   obtain⟨n,h1,h2⟩:=hw.sent e;refine⟨n,h1,?_⟩;rw[hM,List.getElem?_append_left (c_.1 h2).1];exact h2
theorem aN.reway{N:Nat}{s:aE}(h:aN N s){y:List aI}(hy:y.length<=60)(hw:∀m∈y,rS s m):aN N {s with way:=y}:=
 ⟨h.len,h.two,h.five,h.llen,h.lrow,hy,h.rmin,h.rmax,h.prog,h.works,h.links,fun m hm=>⟨(hw m hm).src,(hw m hm).dst,(hw m hm).kind,(hw m hm).ack,(hw m hm).sent⟩,h.vals,h.alen,h.ans⟩
theorem aN.way{N:Nat}{s:aE}(h:aN N s){m:aI}(hm:rS s m):aN N (cB s m):=by
 unfold cB;split
 ·refine h.reway (by simp;omega) (fun m' hm'=> ?_)
  rcases List.mem_append.1 hm' with e|e
  ·exact h.ways m' e
  ·rw[List.mem_singleton.1 e];exact hm
 ·exact h
theorem aN.reworker{N N':Nat}{s:aE}(h:aN N s)(i:Nat){x:cF}(hx:kH s.ks N' x)(hN:N<=N'):aN N' {s with W:=s.W.set i x}:=by
 have h':=h.more hN;refine⟨?_,h.two,h.five,?_,fun ls hl=> ?_,h.w60,h.rmin,h.rmax,h.prog,fun y hy=> ?_,fun a b ha hb=> ?_,fun m hm=>⟨(h.ways m hm).src,(h.ways m hm).dst,(h.ways m hm).kind,(h.ways m hm).ack,(h.ways m hm).sent⟩,h'.vals,h'.alen,h'.ans⟩
 ·show((s.W.set i x).length:Int)=s.workers
  rw[List.length_set];exact h.len
 ·show s.links.length=(s.W.set i x).length
  rw[List.length_set];exact h.llen
 ·show ls.length=(s.W.set i x).length
  rw[List.length_set];exact h.lrow ls hl
 ·rcases List.mem_or_eq_of_mem_set hy with e|rfl
  ·exact h'.works y e
  ·exact hx
 ·have ha':a < s.W.length:=by simpa using ha
  have hb':b < s.W.length:=by simpa using hb
  exact h'.links a b ha' hb'
theorem aN.revals{N N':Nat}{s:aE}(h:aN N s){v:List (ByteArray×Int)}(hv:v.length<=N')(hN:N<=N'):aN N' {s with values:=v}:=by
 have h':=h.more hN;exact⟨h.len,h.two,h.five,h.llen,h.lrow,h.w60,h.rmin,h.rmax,h.prog,h'.works,h'.links,fun m hm=>⟨(h.ways m hm).src,(h.ways m hm).dst,(h.ways m hm).kind,(h.ways m hm).ack,(h.ways m hm).sent⟩,hv,h'.alen,h'.ans⟩
theorem aN.reflags{N:Nat}{s:aE}(h:aN N s)(a o d:Bool):aN N {s with around:=a,over:=o,done:=d}:=
 ⟨h.len,h.two,h.five,h.llen,h.lrow,h.w60,h.rmin,h.rmax,h.prog,h.works,h.links,fun m hm=>⟨(h.ways m hm).src,(h.ways m hm).dst,(h.ways m hm).kind,(h.ways m hm).ack,(h.ways m hm).sent⟩,h.vals,h.alen,h.ans⟩
theorem aN.reans{N N':Nat}{s:aE}(h:aN N s){l:List fD}(hl:l.length<=N')(hn:l≠ [])(ha:∀a∈l,pV N' a)(hN:N<=N'):aN N' {s with answers:=l}:=by
 have h':=h.more hN;exact⟨h.len,h.two,h.five,h.llen,h.lrow,h.w60,h.rmin,h.rmax,h.prog,h'.works,fun i j hi hj=>(h'.links i j hi hj).more (a_ _) (fun _=>hn),fun m hm=>⟨(h.ways m hm).src,(h.ways m hm).dst,(h.ways m hm).kind,(h.ways m hm).ack,(h.ways m hm).sent⟩,h'.vals,hl,ha⟩
theorem xQ(ks:List aS)(N:Nat):kH ks N cR:=⟨by simp[cR],fun t h=>by simp[cR]at h,by simp[cR],by simp[cR],by simp[cR,aH];omega⟩
theorem aN.worker{N:Nat}{s:aE}(h:aN N s)(i:Nat):kH s.ks N (s.W[i]?.getD cR):=by
 cases hx:s.W[i]? with
 |none=>exact xQ _ _
 |some x=>exact h.works x (d_ hx)
theorem aN.send{N:Nat}{s:aE}(h:aN N s){m:aI}{i j:Nat}(hi:i < s.W.length)(hj:j < s.W.length)(hm:∀n:Nat,jQ s.ks (s.answers≠ []) (N+1) i j n {m with no:=n+1}):aN (N+1) (aR s m):=by
 have e1:m.src.toNat=i:=by have:=(hm 0).src;dsimp only at this;omega
 have e2:m.dst.toNat=j:=by have:=(hm 0).dst;dsimp only at this;omega
 have hl:=h.links i j hi hj;have hlk:nR s.ks (s.answers≠ []) (N+1) i j {aF s i j with all:=(aF s i j).all++ [{m with no:=(aF s i j).all.length+1}]}:=by
  refine⟨fun n m' e=> ?_,?_,?_,?_,fun n hn=> ?_,Nat.le_succ_of_le hl.klen⟩
  ·rcases Nat.lt_or_ge n (aF s i j).all.length with hlt|hge
   ·rw[List.getElem?_append_left hlt]at e
    exact(hl.msgs n m' e).more (Nat.le_succ _) id
   ·rw[i7 hge]at e
    have hn:n=(aF s i j).all.length:=by
     have:=(c_.1 e).1;simp at this;omega
    subst hn;simp at e;subst e;exact hm _
  ·simp;exact hl.all
  ·have:=hl.known;simp;omega
  ·have:=hl.came;simp;omega
  ·have:=hl.kept n hn;simp;omega
 have hs1:=h.relink hi hj (L:=[{m with no:=(aF s i j).all.length+1}]) rfl hlk (Nat.le_succ _);have hk:=(hm 0).kind;have hwk:∀s2:aE,s2.links=(aZ s i j {aF s i j with all:=(aF s i j).all++ [{m with no:=(aF s i j).all.length+1}]}).links->s2.workers=s.workers->rS s2 {m with no:=(aF s i j).all.length+1}:=fun s2 h2 h3=>by
  have q1:=(hm 0).src;have q2:=(hm 0).dst;have q3:=h.len;dsimp only at q1 q2 hk;refine⟨by rw[h3];dsimp only;omega,by rw[h3];dsimp only;omega,by dsimp only;omega,fun e=>by dsimp only at e;omega,fun _=>⟨(aF s i j).all.length,rfl,?_⟩⟩;have:aF s2 m.src.toNat m.dst.toNat=aF (aZ s i j {aF s i j with all:=(aF s i j).all++ [{m with no:=(aF s i j).all.length+1}]}) i j:=by
   show(s2.links[m.src.toNat]?.getD [])[m.dst.toNat]?.getD cN=_;rw[h2,e1,e2];rfl
  show(aF s2 m.src.toNat m.dst.toNat).all[_]?= _;rw[this,mH _ h.llen h.lrow hi hj,if_pos ⟨rfl,rfl⟩];simp
 unfold aR;dsimp only;rw[e1,e2];split
 ·refine aN.way ?_ (hwk _ rfl rfl)
  have hx:=h.worker i;exact hs1.reworker i (x:={s.W[i]?.getD cR with sent:=(s.W[i]?.getD cR).sent+1}) ⟨by have:=hx.few;dsimp only;omega,hx.good,by have:=hx.sent;dsimp only;omega,by have:=hx.came;dsimp only;omega,by have:=hx.tok;dsimp only;omega⟩ (a_ _)
 ·exact aN.way hs1 (hwk _ rfl rfl)
theorem aN.nat{N:Nat}{s:aE}(h:aN N s){i:Int}(h0:0<=i)(h1:i < s.workers):i.toNat < s.W.length/\i=(i.toNat:Int):=by
 have:=h.len;omega
theorem rP{ks:List aS}{ans:Prop}{N i j n:Nat}{m:aI}(h1:m.src=i)(h2:m.dst=j)(h3:i≠j)(h4:m.no=n+1)(h5:1<=m.kind/\m.kind<=4)(h6:m.kind=2->gO ks m.t/\m.t.arg<=12)(h7:m.sent=0/\m.came=0/\m.count=0):jQ ks ans N i j n m:=
 ⟨h1,h2,h3,h4,by omega,h6,fun e=>by omega,fun e=>by omega,fun e=>by omega,by omega⟩
theorem aN.work{N:Nat}{s:aE}(h:aN N s)(i:Int):aN (N+1) (cJ s i).1:=by
 have h1:=h.more (Nat.le_succ N);unfold cJ;split
 ·exact h1
 ·rename_i hw
  have hr:0<=i/\i < s.workers:=by
   unfold dG at hw;split at hw
   ·omega
   ·rename_i hn
    simp at hw;simp[hw]at hn;omega
  obtain⟨hil,hie⟩:=h.nat hr.1 hr.2;split
  ·exact h1
  ·rename_i x hx
   have hxo:=h.works x (d_ hx);split
   ·exact h1
   ·rename_i t ht
    have htm:t∈x.tasks:=List.mem_of_getLast? ht;split
    ·exact h1.reflags _ _ _
    ·rename_i hroom
     have hwk:kH s.ks N {x with tasks:=x.tasks.dropLast++aW s.ks t}:=by
      refine⟨?_,fun c hc=> ?_,hxo.sent,hxo.came,hxo.tok⟩
      ·have:=h.rmax
       have:x.tasks.length≠0:=fun e=>by rw[List.length_eq_zero_iff]at e;rw[e]at htm;simp at htm
       simp;omega
      ·rcases List.mem_append.1 hc with e|e
       ·exact hxo.good c ((List.dropLast_sublist _).subset e)
       ·exact sG h.prog (hxo.good t htm) c e
     have hs1:=h.reworker i.toNat hwk (a_ _);dsimp only;split
     ·refine(hs1.more (Nat.le_succ N)).revals ?_ (a_ _)
      rw[oX];have:=h.vals;omega
     ·rename_i h0
      refine hs1.send (i:=i.toNat) (j:=0) ?_ ?_ (fun n=>rP hie rfl (by omega) rfl (by dsimp only;decide) (fun e=>by simp at e) ⟨rfl,rfl,rfl⟩)
      ·simpa using hil
      ·have:=h.len
       have:=h.two;simp;omega
theorem kO{s:aE}{i:Int}(hw:¬dG s i≠0):0<=i/\i < s.workers:=by
 unfold dG at hw;split at hw
 ·omega
 ·rename_i hn
  simp at hw;simp[hw]at hn;omega
theorem nN{s:aE}{i:Int}(hw:¬eP s i≠0):0<=i/\i < s.way.length:=by
 unfold eP at hw;split at hw
 ·omega
 ·rename_i hn
  simp at hw;simp[hw]at hn;omega
theorem aN.steal{N:Nat}{s:aE}(h:aN N s)(i v:Int):aN (N+1) (eE s i v).1:=by
 have h1:=h.more (Nat.le_succ N);unfold eE;split
 ·exact h1
 ·rename_i hi
  split
  ·exact h1
  ·rename_i hv
   split
   ·exact h1
   ·rename_i hne
    obtain⟨hi0,hi1⟩:=kO hi;obtain⟨hv0,hv1⟩:=kO hv;obtain⟨hil,hie⟩:=h.nat hi0 hi1;obtain⟨hvl,hve⟩:=h.nat hv0 hv1;split
    ·exact h1
    ·rename_i x hx
     have hxo:=h.works x (d_ hx);split
     ·exact h1
     ·refine aN.send (h.reworker i.toNat (x:={x with asked:=true}) ⟨hxo.few,hxo.good,hxo.sent,hxo.came,hxo.tok⟩ (a_ _)) (i:=i.toNat) (j:=v.toNat) ?_ ?_ (fun n=>rP hie hve (by omega) rfl (by dsimp only;decide) (fun e=>by simp at e) ⟨rfl,rfl,rfl⟩)
      ·simpa using hil
      ·simpa using hvl
theorem aN.drop{N:Nat}{s:aE}(h:aN N s)(k:Int):aN N (fX s k).1:=by
 unfold fX;split
 ·exact h
 ·refine h.reway ?_ (fun m hm=>h.ways m ?_)
  ·have:=h.w60
   simp;omega
  ·rcases List.mem_append.1 hm with e|e
   ·exact List.mem_of_mem_take e
   ·exact List.mem_of_mem_drop e
theorem aN.twice{N:Nat}{s:aE}(h:aN N s)(k:Int):aN N (fS s k).1:=by
 unfold fS;split
 ·exact h
 ·rename_i hm
  obtain⟨h0,h1⟩:=nN hm;refine h.way ?_;rw[b_ (show k.toNat < s.way.length by omega)];exact h.ways _ (List.getElem_mem _)
theorem aN.again{N:Nat}{s:aE}(h:aN N s){i j:Nat}(hi:i < s.W.length)(hj:j < s.W.length)(l:aO)(hl:l=aF s i j):aN N (dO s l):=by
 subst hl;have hk:=h.links i j hi hj;unfold dO;split
 ·rename_i hlt
  refine h.way ?_;have h0:=hk.known;have hg:(aF s i j).all[(aF s i j).known.toNat]?= some (aF s i j).all[(aF s i j).known.toNat]:=b_ (by omega);rw[hg];have hm:=hk.msgs _ _ hg;have hlen:=h.len;have hkd:=hm.kind;simp only[Option.getD_some];refine⟨by have:=hm.src;omega,by have:=hm.dst;omega,by omega,fun e=>by omega,fun _=>⟨_,hm.no,?_⟩⟩;have e1:(aF s i j).all[(aF s i j).known.toNat].src.toNat=i:=by have:=hm.src;omega
  have e2:(aF s i j).all[(aF s i j).known.toNat].dst.toNat=j:=by have:=hm.dst;omega
  rw[e1,e2];exact hg
 ·exact h
theorem wD(s:aE)(l:aO):(dO s l).links=s.links/\(dO s l).W=s.W:=by
 unfold dO cB;split
 ·split<;>exact⟨rfl,rfl⟩
 ·exact⟨rfl,rfl⟩
theorem aN.tick{N:Nat}{s:aE}(h:aN N s)(i:Int):aN N (fV s i).1:=by
 unfold fV;split
 ·exact h
 ·rename_i hw
  obtain⟨h0,h1⟩:=kO hw;obtain⟨hil,hie⟩:=h.nat h0 h1;have key:∀(L:List aO) (k:Nat) (s':aE),aN N s'->s'.links=s.links->s'.W=s.W->(∀n l,L[n]?= some l->l=aF s i.toNat (k+n)/\k+n < s.W.length)->aN N (L.foldl dO s'):=by
   intro L
   induction L with
   |nil=>intro k s' h' _ _ _;exact h'
   |cons l r ih=>
    intro k s' h' e1 e2 hL;have hl:=hL 0 l rfl;rw[Nat.add_zero]at hl;refine ih (k+1) _ (h'.again (i:=i.toNat) (j:=k) (by rw[e2];exact hil) (by rw[e2];exact hl.2) l ?_) ((wD s' l).1.trans e1) ((wD s' l).2.trans e2) (fun n l' hn=> ?_)
    ·rw[hl.1]
     unfold aF;rw[e1]
    ·have:=hL (n+1) l' (by simpa using hn)
     rw[show k+1+n=k+(n+1) by omega];exact this
  have hg:s.links[i.toNat]?= some (s.links[i.toNat]'(by have:=h.llen;omega)):=b_ _;have hlen:=h.lrow _ (d_ hg);refine key _ 0 s h rfl rfl (fun n l hn=> ?_);rw[hg]at hn;simp only[Option.getD_some]at hn;have hnl:=(c_.1 hn).1;refine⟨?_,by omega⟩;unfold aF;rw[hg,Nat.zero_add,Option.getD_some,hn];rfl
theorem aN.noted{N:Nat}{s:aE}(h:aN N s){a b:Int}(c:Bool)(ha:0<=a/\a<=1000000000)(hb:0<=b/\b<=1000000000):aN (N+1) (dA s a b c):=by
 unfold dA;split
 ·exact h.more (Nat.le_succ N)
 ·rename_i x hx
  have hm:x∈s.answers:=List.mem_of_getLast? hx;have hxo:=h.ans x hm;refine h.reans ?_ (by simp) (fun y hy=> ?_) (Nat.le_succ N)
  ·have:=h.alen
   have:s.answers.length≠0:=fun e=>by rw[List.length_eq_zero_iff]at e;rw[e]at hm;simp at hm
   simp;omega
  ·rcases List.mem_append.1 hy with e|e
   ·exact(h.ans y ((List.dropLast_sublist _).subset e)).more (Nat.le_succ N)
   ·rw[List.mem_singleton.1 e]
    exact⟨by have:=hxo.many;dsimp only;omega,by have:=hxo.sent;dsimp only;omega,by have:=hxo.came;dsimp only;omega⟩
theorem aN.came{N:Nat}{s:aE}(h:aN N s)(hN:N<=1000000000){i j n:Nat}{m:aI}(hi:i < s.W.length)(hj:j < s.W.length)(hm:jQ s.ks (s.answers≠ []) N i j n m):aN (N+1) (aX s m):=by
 have h1:=h.more (Nat.le_succ N);have hxo:=h.worker m.dst.toNat;have hs0:=hm.src;have hd0:=hm.dst;have hne:=hm.ne;have hnums:=hm.nums;unfold aX;dsimp only;generalize hx:s.W[m.dst.toNat]?.getD cR=x at hxo ⊢;split
 ·split
  ·exact h.send (i:=j) (j:=i) hj hi (fun n=>rP hd0 hs0 (by omega) rfl (by dsimp only;decide) (fun e=>by simp at e) ⟨rfl,rfl,rfl⟩)
  ·rename_i t r ht
   have hwk:kH s.ks N {x with tasks:=r}:=⟨by have:=hxo.few;rw[ht]at this;simp at this;dsimp only;omega,fun c hc=>hxo.good c (by rw[ht];exact List.mem_cons_of_mem _ hc),hxo.sent,hxo.came,hxo.tok⟩;refine aN.send (h.reworker m.dst.toNat hwk (a_ _)) (i:=j) (j:=i) (by simpa using hj) (by simpa using hi) (fun n=>rP hd0 hs0 (by omega) rfl (by dsimp only;decide) (fun _=>hxo.good t (by rw[ht];exact List.mem_cons_self ..)) ⟨rfl,rfl,rfl⟩)
 ·split
  ·rename_i h2
   refine h.reworker _ ⟨?_,fun c hc=> ?_,?_,?_,?_⟩ (Nat.le_succ N)
   ·have:=hxo.few;simp;omega
   ·rcases List.mem_append.1 hc with e|e
    ·exact hxo.good c e
    ·rw[List.mem_singleton.1 e];exact hm.task h2
   ·have:=hxo.sent;dsimp only;omega
   ·have:=hxo.came;dsimp only;omega
   ·have:=hxo.tok;dsimp only;omega
  ·split
   ·refine(h.reworker m.dst.toNat (x:={x with asked:=false}) ⟨hxo.few,hxo.good,hxo.sent,hxo.came,hxo.tok⟩ (a_ _)).more (Nat.le_succ N)
   ·split
    ·refine aN.revals (h.reworker m.dst.toNat (x:={x with came:=x.came+1,black:=true}) (N':=N+1) ⟨by have:=hxo.few;dsimp only;omega,hxo.good,by have:=hxo.sent;dsimp only;omega,by have:=hxo.came;dsimp only;omega,by have:=hxo.tok;dsimp only;omega⟩ (Nat.le_succ N)) ?_ (a_ _)
     rw[oX];have:=h.vals;omega
    ·split
     ·exact aN.reflags ((h.reworker m.dst.toNat (x:={x with has:=true,token:=m}) ⟨hxo.few,hxo.good,hxo.sent,hxo.came,by dsimp only;omega⟩ (a_ _)).more (Nat.le_succ N)) _ _ _
     ·split
      ·rename_i h6
       have hi0:=hm.wave h6;have hsn:=hxo.sent;have hcm:=hxo.came;refine h.send (i:=j) (j:=i) hj hi (fun n=>⟨hd0,by show(0:Int)=_;omega,by omega,rfl,by dsimp only;decide,fun e=>by simp at e,fun _=>hm.told (.inl h6),fun e=>by simp at e,fun _=>hi0,?_⟩);refine⟨hsn.1,?_,hcm.1,?_,?_,?_⟩
       ·show x.sent<=_;omega
       ·show x.came<=_;omega
       ·show _<=(0:Int);omega
       ·show(0:Int)<=_;omega
      ·split
       ·exact h.noted _ ⟨hnums.1,hnums.2.1⟩ ⟨hnums.2.2.1,hnums.2.2.2.1⟩
       ·exact h1
theorem tW(s:aE)(m:aI){a b:Nat}(hl:s.links.length=s.W.length)(hr:∀ls∈s.links,ls.length=s.W.length)(hi:m.src.toNat < s.W.length)(hj:m.dst.toNat < s.W.length)(h:¬(a=m.src.toNat/\b=m.dst.toNat)):aF (aR s m) a b=aF s a b:=by
 have e:∀s2:aE,s2.links=(aZ s m.src.toNat m.dst.toNat {aF s m.src.toNat m.dst.toNat with all:=(aF s m.src.toNat m.dst.toNat).all++ [{m with no:=(aF s m.src.toNat m.dst.toNat).all.length+1}]}).links->aF s2 a b=aF s a b:=fun s2 h2=>by
  have:=mH {aF s m.src.toNat m.dst.toNat with all:=(aF s m.src.toNat m.dst.toNat).all++ [{m with no:=(aF s m.src.toNat m.dst.toNat).all.length+1}]} hl hr hi hj a b;rw[if_neg h]at this;rw[<-this];show(s2.links[a]?.getD [])[b]?.getD cN=_;rw[h2];rfl
 apply e;unfold aR cB;dsimp only;split<;>split<;>rfl
theorem pA{N:Nat}{s:aE}(h:aN N s){i j n:Nat}{m:aI}(hi:i < s.W.length)(hj:j < s.W.length)(hm:jQ s.ks (s.answers≠ []) N i j n m):aF (aX s m) i j=aF s i j/\(aX s m).W.length=s.W.length:=by
 have hs0:=hm.src;have hd0:=hm.dst;have hne:=hm.ne;have sendW:∀(s:aE) (m:aI),(aR s m).W.length=s.W.length:=fun s m=>by
  unfold aR cB;dsimp only;split<;>split<;>simp
 unfold aX;dsimp only;generalize s.W[m.dst.toNat]?.getD cR=x;split
 ·split
  ·exact⟨tW _ _ h.llen h.lrow (by show m.dst.toNat < _;omega) (by show m.src.toNat < _;omega) (by show¬(i=m.dst.toNat/\j=m.src.toNat);omega),sendW _ _⟩
  ·rename_i t r ht
   refine⟨(tW _ _ (by simpa using h.llen) (by simpa using h.lrow) (by show m.dst.toNat < _;simp;omega) (by show m.src.toNat < _;simp;omega) (by show¬(i=m.dst.toNat/\j=m.src.toNat);omega)).trans rfl,(sendW _ _).trans (by simp)⟩
 ·split
  ·exact⟨rfl,by simp⟩
  ·split
   ·exact⟨rfl,by simp⟩
   ·split
    ·exact⟨rfl,by simp⟩
    ·split
     ·exact⟨rfl,by simp⟩
     ·split
      ·exact⟨tW _ _ h.llen h.lrow (by show m.dst.toNat < _;omega) (by show(0:Int).toNat < _;simp;omega) (by show¬(i=m.dst.toNat/\j=(0:Int).toNat);omega),sendW _ _⟩
      ·split
       ·unfold dA
        split<;>exact⟨rfl,rfl⟩
       ·exact⟨rfl,rfl⟩
theorem tQ{s:aE}(hl:s.links.length=s.W.length)(hr:∀ls∈s.links,ls.length=s.W.length){ls:List aO}{l:aO}(h1:ls∈s.links)(h2:l∈ls):∃i j,i < s.W.length/\j < s.W.length/\l=aF s i j:=by
 obtain⟨i,hi,rfl⟩:=List.mem_iff_getElem.1 h1;obtain⟨j,hj,rfl⟩:=List.mem_iff_getElem.1 h2;have:=hr _ h1;refine⟨i,j,by omega,by omega,?_⟩;unfold aF;rw[b_ hi,Option.getD_some,b_ hj,Option.getD_some]
theorem aN.shaped{N:Nat}{s:aE}(h:aN N s):cX s:=⟨h.len,h.two,h.five,h.llen,h.lrow,h.w60⟩
theorem aN.small{N:Nat}{s:aE}(h:aN N s):dS N s:=by
 have key:∀ls∈s.links,∀l∈ls,∃i j,nR s.ks (s.answers≠ []) N i j l:=fun ls h1 l h2=>by
  obtain⟨i,j,hi,hj,rfl⟩:=tQ h.llen h.lrow h1 h2;exact⟨i,j,h.links i j hi hj⟩
 refine⟨fun ls h1 l h2=> ?_,fun ls h1 l h2=> ?_,fun ls h1 l h2=> ?_,fun ls h1 l h2=> ?_,fun x hx=>(h.works x hx).sent,fun x hx=>(h.works x hx).came⟩
 all_goals obtain⟨i,j,hk⟩:=key ls h1 l h2
 ·exact hk.all
 ·exact hk.known.1
 ·have:=hk.came
  have:=hk.all;omega
 ·exact hk.klen
theorem aN.known{N:Nat}{s:aE}(h:aN N s):∀ls∈s.links,∀l∈ls,l.known.toNat<=l.all.length:=fun ls h1 l h2=>by
 obtain⟨i,j,hi,hj,rfl⟩:=tQ h.llen h.lrow h1 h2;have:=(h.links i j hi hj).known;omega
theorem aN.ready{N:Nat}{s:aE}(h:aN N s)(hN:N<=90000000){i j n:Nat}{m:aI}(hi:i < s.W.length)(hj:j < s.W.length)(hm:jQ s.ks (s.answers≠ []) N i j n m):uB s m:=by
 have hlen:=h.len;have hs0:=hm.src;have hd0:=hm.dst;have hnums:=hm.nums;refine⟨h.shaped,⟨N,by omega,h.small⟩,by omega,by omega,fun x hx=>by have:=(h.works x hx).few;omega,by have:=h.vals;omega,hm.kind,fun h7=> ?_⟩;have hne:=hm.told (.inr h7);have e:=List.dropLast_concat_getLast hne;have ha:=h.ans _ (List.getLast_mem hne);have hal:=h.alen;refine⟨s.answers.dropLast,s.answers.getLast hne,e.symm,by simp;omega,by have:=ha.many;omega,?_,?_⟩
 ·have:=ha.sent;omega
 ·have:=ha.came;omega
theorem aN.linkFine{N:Nat}{s:aE}(h:aN N s)(hN:N<=90000000){i j:Nat}(hi:i < s.W.length)(hj:j < s.W.length):rG s i j:=by
 have hl:=h.links i j hi hj;have h1:=hl.klen;have h2:=hl.came;have h3:=hl.all;exact⟨h.shaped,by omega,by omega⟩
theorem aN.come{i j:Nat}:∀(f d N:Nat) (s:aE),aN N s->i < s.W.length->j < s.W.length->N+d<=90000000->(∀n∈(aF s i j).kept,n<=(aF s i j).came+d)->((aF s i j).all.length:Int)+1<=(aF s i j).came+f->nW f s i j/\aN (N+d) (fQ f s i j):=by
 intro f
 induction f with
 |zero=>
  intro d N s h hi hj _ _ hf;have:=(h.links i j hi hj).came;omega
 |succ f ih=>
  intro d N s h hi hj hN hd hf;have hl:=h.links i j hi hj;unfold nW fQ;by_cases hb:gM (aF s i j)=true
  ·rw[if_pos hb]
   have hmem:(aF s i j).came+1∈(aF s i j).kept:=by
    unfold gM at hb;obtain⟨y,hy,hye⟩:=List.any_eq_true.1 hb;have:y=(aF s i j).came+1:=by simpa using hye
    rw[<-this];exact hy
   have hk:=hl.kept _ hmem;have hd1:=hd _ hmem;have hc:=hl.came;have hs1:aN N (aZ s i j {aF s i j with came:=(aF s i j).came+1}):=h.relink hi hj (L:=[]) (by simp) ⟨hl.msgs,hl.all,hl.known,by dsimp only;omega,fun n hn=>by have:=hl.kept n hn;dsimp only;omega,hl.klen⟩ (a_ _);have hg:(aF s i j).all[(aF s i j).came.toNat]?= some ((aF s i j).all[(aF s i j).came.toNat]'(by omega)):=b_ _;have hm:=hl.msgs _ _ hg;have hst:fU s i j=aX (aZ s i j {aF s i j with came:=(aF s i j).came+1}) ((aF s i j).all[(aF s i j).came.toNat]'(by omega)):=by
    unfold fU;rw[hg,Option.getD_some]
   have hfin:aN (N+1) (fU s i j):=by
    rw[hst];exact hs1.came (by omega) hi hj hm
   obtain⟨hlk,hlw⟩:=pA hs1 hi hj hm;rw[<-hst]at hlk hlw;rw[mH _ h.llen h.lrow hi hj,if_pos ⟨rfl,rfl⟩]at hlk;have hlw':(fU s i j).W.length=s.W.length:=hlw;have r:=ih (d - 1) (N+1) (fU s i j) hfin (by omega) (by omega) (by omega) (fun n hn=>by rw[hlk]at hn ⊢;have:=hd n hn;dsimp only;omega) (by rw[hlk];dsimp only;omega);refine⟨⟨h.linkFine (by omega) hi hj,fun _=>⟨by omega,?_,r.1⟩⟩,?_⟩
   ·rw[hg,Option.getD_some]
    exact hs1.ready (by omega) hi hj hm
   ·have:=r.2
    rw[show N+1+(d - 1)=N+d by omega]at this;exact this
  ·rw[if_neg hb]
   exact⟨⟨h.linkFine (by omega) hi hj,fun e=>absurd e hb⟩,h.more (Nat.le_add_right _ _)⟩
theorem aN.unway{N:Nat}{s:aE}(h:aN N s)(k:Nat):aN N {s with way:=s.way.take k++s.way.drop (k+1)}:=by
 refine h.reway ?_ (fun m hm=>h.ways m ?_)
 ·have:=h.w60
  simp;omega
 ·rcases List.mem_append.1 hm with e|e
  ·exact List.mem_of_mem_take e
  ·exact List.mem_of_mem_drop e
theorem aN.keep{N:Nat}{s:aE}(h:aN N s){i j:Nat}(hi:i < s.W.length)(hj:j < s.W.length){n:Int}(hn:n<=(aF s i j).all.length):aN (N+1) (aZ s i j (bI (aF s i j) n)):=by
 have hl:=h.links i j hi hj;refine h.relink hi hj (L:=[]) ?_ ?_ (Nat.le_succ N)
 ·unfold bI
  split<;>simp
 ·unfold bI
  split
  ·rename_i hc
   obtain⟨h1,h2,-⟩:=hc;have h0:=hl.came;have hk:=hl.klen;refine⟨fun a m e=>(hl.msgs a m e).more (Nat.le_succ N) id,Nat.le_succ_of_le hl.all,hl.known,hl.came,fun a ha=> ?_,by simp;omega⟩;rcases List.mem_append.1 ha with e|e
   ·exact hl.kept a e
   ·rw[List.mem_singleton.1 e]
    dsimp only;omega
  ·exact hl.more (Nat.le_succ N) id
theorem qE(s:aE)(m:aI):(aR s m).workers=s.workers:=by
 unfold aR cB;dsimp only;split<;>split<;>rfl
theorem aDd(s:aE)(m:aI):(aX s m).workers=s.workers:=by
 unfold aX;dsimp only;split
 ·split
  ·exact qE _ _
  ·exact qE _ _
 ·repeat' split
  all_goals first|rfl|exact qE _ _|(unfold dA;split<;>rfl)
theorem aDl(i j:Nat):∀(f:Nat) (s:aE),(fQ f s i j).workers=s.workers:=by
 intro f
 induction f with
 |zero=>intro s;rfl
 |succ f ih=>
  intro s;unfold fQ;split
  ·rw[ih]
   unfold fU;rw[aDd];rfl
  ·rfl
theorem aN.deliver{N:Nat}{s:aE}(h:aN N s)(hN:N+5<=90000000)(k:Int):aN (N+5) (eB s k).1:=by
 have h5:=h.more (Nat.le_add_right N 5);unfold eB;split
 ·exact h5
 ·rename_i hme
  obtain⟨h0,h1⟩:=nN hme;have hg:s.way[k.toNat]?= some (s.way[k.toNat]'(by omega)):=b_ _;have hw:=h.ways _ (d_ hg);rw[hg];dsimp only[Option.getD_some];generalize s.way[k.toNat]=m at hw ⊢;have hu:=h.unway k.toNat;obtain⟨hsl,hse⟩:=h.nat hw.src.1 hw.src.2;obtain⟨hdl,hde⟩:=h.nat hw.dst.1 hw.dst.2;split
  ·rename_i hk0
   split
   ·rename_i hlt
    have hl:=hu.links _ _ hdl hsl;refine(hu.relink hdl hsl (l:={aF {s with way:=s.way.take k.toNat++s.way.drop (k.toNat+1)} m.dst.toNat m.src.toNat with known:=m.no}) (L:=[]) (by simp) ⟨hl.msgs,hl.all,?_,hl.came,hl.kept,hl.klen⟩ (a_ _)).more (Nat.le_add_right N 5);exact hw.ack hk0
   ·exact hu.more (Nat.le_add_right N 5)
  ·rename_i hk0
   obtain⟨n,hn,hne⟩:=hw.sent hk0;have hnl:=(c_.1 hne).1;have hkp:=hu.keep hsl hdl (n:=m.no) (by rw[hn];show(n:Int)+1<=((aF s m.src.toNat m.dst.toNat).all.length:Int);omega);have hset:=mH (s:={s with way:=s.way.take k.toNat++s.way.drop (k.toNat+1)}) (bI (aF {s with way:=s.way.take k.toNat++s.way.drop (k.toNat+1)} m.src.toNat m.dst.toNat) m.no) hu.llen hu.lrow hsl hdl m.src.toNat m.dst.toNat;rw[if_pos ⟨rfl,rfl⟩]at hset;have hc:=aN.come (i:=m.src.toNat) (j:=m.dst.toNat) ((aF {s with way:=s.way.take k.toNat++s.way.drop (k.toNat+1)} m.src.toNat m.dst.toNat).all.length+1) 4 _ _ hkp hsl hdl (by omega) (fun a ha=>((hkp.links _ _ hsl hdl).kept a ha).2.2) (by
    have hkc:=(hkp.links _ _ hsl hdl).came;rw[hset]at hkc ⊢;have:(bI (aF {s with way:=s.way.take k.toNat++s.way.drop (k.toNat+1)} m.src.toNat m.dst.toNat) m.no).all=(aF {s with way:=s.way.take k.toNat++s.way.drop (k.toNat+1)} m.src.toNat m.dst.toNat).all:=by
     unfold bI;split<;>rfl
    rw[this]at hkc ⊢;omega)
   have hf:=hc.2;have hwk:=aDl m.src.toNat m.dst.toNat ((aF {s with way:=s.way.take k.toNat++s.way.drop (k.toNat+1)} m.src.toNat m.dst.toNat).all.length+1) (aZ {s with way:=s.way.take k.toNat++s.way.drop (k.toNat+1)} m.src.toNat m.dst.toNat (bI (aF {s with way:=s.way.take k.toNat++s.way.drop (k.toNat+1)} m.src.toNat m.dst.toNat) m.no));have hwk':_=s.workers:=hwk;clear hc hset hkp
   revert hf hwk'
   generalize fQ _ _ _ _=s3;intro hf hwk';refine aN.way hf ⟨?_,?_,?_,fun _=> ?_,fun e=>absurd rfl e⟩
   ·rw[hwk'];exact hw.dst
   ·rw[hwk'];exact hw.src
   ·exact⟨Int.le_refl _,by show(0:Int)<=7;omega⟩
   ·have h3:=hf.len
    rw[hwk']at h3;have h4:=h.len;have hl3:=(hf.links m.src.toNat m.dst.toNat (by omega) (by omega)).came;exact hl3
theorem aN.comeOK{N:Nat}{s:aE}(h:aN N s)(hN:N+5<=90000000){k:Nat}{m:aI}(hm:s.way[k]?= some m)(hk:m.kind≠0):∀i j s1,m.src=(i:Nat)->m.dst=(j:Nat)->s1={s with way:=s.way.take k++s.way.drop (k+1)}->nW ((aF s1 i j).all.length+1) (aZ s1 i j (bI (aF s1 i j) m.no)) i j:=by
 intro i j s1 e1 e2 e3;have hw:=h.ways m (d_ hm);have hu:aN N s1:=by rw[e3];exact h.unway k
 have hwl:s1.W.length=s.W.length:=by rw[e3]
 have hlen:=h.len;have hw1:=hw.src;have hw2:=hw.dst;have hi:i < s1.W.length:=by omega
 have hj:j < s1.W.length:=by omega
 obtain⟨n,hn,hne⟩:=hw.sent hk;have hnl:=(c_.1 hne).1;have hlo:aF s1 i j=aF s m.src.toNat m.dst.toNat:=by rw[e3,e1,e2];rfl
 have hkp:=hu.keep hi hj (n:=m.no) (by rw[hlo];omega);have hset:=mH (bI (aF s1 i j) m.no) hu.llen hu.lrow hi hj i j;rw[if_pos ⟨rfl,rfl⟩]at hset;refine(aN.come ((aF s1 i j).all.length+1) 4 _ _ hkp hi hj (by omega) (fun a ha=>((hkp.links _ _ hi hj).kept a ha).2.2) ?_).1;have hkc:=(hkp.links _ _ hi hj).came;rw[hset]at hkc ⊢;have:(bI (aF s1 i j) m.no).all=(aF s1 i j).all:=by
  unfold bI;split<;>rfl
 rw[this]at hkc ⊢;omega
theorem aN.pass{N:Nat}{s:aE}(h:aN N s)(hN:N<=1000000000)(i:Int):aN (N+1) (eL s i).1:=by
 have h1:=h.more (Nat.le_succ N);unfold eL;split
 ·exact h1
 ·rename_i hw
  obtain⟨h0,hlt⟩:=kO hw;obtain⟨hil,hie⟩:=h.nat h0 hlt;split
  ·exact h1
  ·rename_i x hx
   have hxo:=h.works x (d_ hx);split
   ·exact h1
   ·rename_i hc
    have hi0:i≠0:=fun e=>hc (.inr (.inl e))
    have ht:=hxo.tok;have hs:=hxo.sent;have hcm:=hxo.came;dsimp only;refine aN.reworker (h.send (i:=i.toNat) (j:=(i - 1).toNat) hil (by omega) (fun n=>⟨hie,by show i - 1=_;omega,by omega,rfl,by dsimp only;decide,fun e=>by simp at e,fun e=>by simp at e,fun e=>by simp at e,fun e=>by simp at e,⟨by show(0:Int)<=0;omega,by show(0:Int)<=_;omega,by show(0:Int)<=0;omega,by show(0:Int)<=_;omega,?_,?_⟩⟩)) i.toNat ?_ (a_ _)
    ·show _<=x.token.count+x.sent - x.came
     omega
    ·show x.token.count+x.sent - x.came<=_
     omega
    ·have hk:(aR s {aH with src:=i,dst:=i - 1,kind:=5,count:=x.token.count+x.sent - x.came,black:=x.token.black||x.black}).ks=s.ks:=by
      unfold aR cB;dsimp only;split<;>split<;>rfl
     rw[hk];exact⟨by have:=hxo.few;dsimp only;omega,hxo.good,by dsimp only;omega,by dsimp only;omega,by dsimp only;omega⟩
theorem pC(s:aE)(m:aI):(aR s m).answers=s.answers/\(aR s m).W.length=s.W.length/\(aR s m).ks=s.ks:=by
 unfold aR cB;dsimp only;split<;>split<;>simp
theorem aN.waves{n:Int}:∀(L:List Nat) (N:Nat) (s:aE),aN N s->s.answers≠ []->(∀k∈L,1<=k/\k < s.W.length)->aN (N+L.length) (L.foldl (eR n) s):=by
 intro L
 induction L with
 |nil=>intro N s h _ _;exact h
 |cons k r ih=>
  intro N s h ha hL;have hk:=hL k (List.mem_cons_self ..);obtain⟨e1,e2,-⟩:=pC s {aH with src:=0,dst:=k,kind:=6,round:=n};have hs:aN (N+1) (eR n s k):=h.send (i:=0) (j:=k) (by omega) hk.2 (fun n=>⟨rfl,rfl,by omega,rfl,by dsimp only;decide,fun e=>by simp at e,fun _=>ha,fun _=>rfl,fun e=>by simp at e,⟨by show(0:Int)<=0;omega,by show(0:Int)<=_;omega,by show(0:Int)<=0;omega,by show(0:Int)<=_;omega,by show _<=(0:Int);omega,by show(0:Int)<=_;omega⟩⟩);have:=ih (N+1) (eR n s k) hs (by show(aR _ _).answers≠ [];rw[e1];exact ha) (fun a b=>by show 1<=a/\a < (aR _ _).W.length;rw[e2];exact hL a (List.mem_cons_of_mem _ b));rw[List.length_cons,List.foldl_cons,show N+(r.length+1)=N+1+r.length by omega];exact this
theorem aN.ring{N:Nat}{s:aE}(h:aN N s):aN (N+1) (fP s).1:=by
 have h1:=h.more (Nat.le_succ N);have h2:=h.two;have hl:=h.len;unfold fP;split
 ·exact h1
 ·rename_i x hx
  have hxo:=h.works x (d_ hx);split
  ·exact h1
  ·split
   ·exact h1.reflags _ _ _
   ·refine aN.send (h.reworker 0 (x:={x with black:=false,has:=false}) ⟨hxo.few,hxo.good,hxo.sent,hxo.came,hxo.tok⟩ (a_ _)) (i:=0) (j:=(s.workers - 1).toNat) (by simp;omega) (by simp;omega) (fun n=>⟨rfl,by show s.workers - 1=_;omega,by omega,rfl,by dsimp only;decide,fun e=>by simp at e,fun e=>by simp at e,fun e=>by simp at e,fun e=>by simp at e,⟨by show(0:Int)<=0;omega,by show(0:Int)<=_;omega,by show(0:Int)<=0;omega,by show(0:Int)<=_;omega,by show _<=(0:Int);omega,by show(0:Int)<=_;omega⟩⟩)
theorem aN.check{N:Nat}{s:aE}(h:aN N s)(hN:N<=1000000000):aN (N+6) (fJ s).1:=by
 have h1:=h.more (Nat.le_add_right N 6);unfold fJ;split
 ·exact h1
 ·split
  ·exact h.ring.more (by omega)
  ·unfold gD
   split
   ·exact h1
   ·rename_i x hx
    have hxo:=h.works x (d_ hx);split
    ·exact h1
    ·split
     ·exact h1.reflags _ _ _
     ·have h2:aN (N+1) {s with answers:=s.answers++ [⟨0,0,0,true⟩]}:=h.reans (by have:=h.alen;simp;omega) (by simp) (fun a ha=>by
       rcases List.mem_append.1 ha with e|e
       ·exact(h.ans a e).more (Nat.le_succ N)
       ·rw[List.mem_singleton.1 e];exact⟨by dsimp only;omega,by dsimp only;omega,by dsimp only;omega⟩) (Nat.le_succ N)
      have hsn:=hxo.sent;have hcm:=hxo.came;have h3:=h2.noted (a:=x.sent) (b:=x.came) true (by omega) (by omega);have hne:(dA {s with answers:=s.answers++ [⟨0,0,0,true⟩]} x.sent x.came true).answers≠ []:=by
       unfold dA;split<;>simp
      have hwl:(dA {s with answers:=s.answers++ [⟨0,0,0,true⟩]} x.sent x.came true).W.length=s.W.length:=by
       unfold dA;split<;>rfl
      have h5:=h.five;have hl:=h.len;refine(aN.waves (List.range' 1 (s.W.length - 1)) (N+1+1) _ h3 hne (fun k hk=> ?_)).more (by rw[List.length_range'];omega);rw[hwl];have:=List.mem_range'_1.1 hk;omega
theorem aN.new{workers room mode kind arg:Int}{ks:List aS}(hc:fC workers room mode=true)(hp:cD ks kind arg=true):aN 0 (dD workers room mode ks kind arg):=by
 simp[fC]at hc;have hr:0<=kind/\kind < ks.length/\0<=arg/\arg<=12:=by
  have:=hp;simp[cD,dF,jI]at this;omega
 have hlen:(dD workers room mode ks kind arg).W.length=workers.toNat:=by simp[dD];omega
 have hL:∀ls∈(dD workers room mode ks kind arg).links,ls=List.replicate workers.toNat cN:=fun ls h=>List.eq_of_mem_replicate h
 refine⟨?_,hc.1.1.1.1,hc.1.1.1.2,?_,fun ls h=> ?_,Nat.zero_le _,hc.1.1.2,hc.1.2,hp,fun x hx=> ?_,fun i j hi hj=> ?_,fun m hm=>by simp[dD]at hm,Nat.zero_le _,Nat.zero_le _,fun a ha=>by simp[dD]at ha⟩
 ·rw[hlen];show(workers.toNat:Int)=workers;omega
 ·rw[hlen];simp[dD]
 ·rw[hlen,hL ls h];simp
 ·rcases List.mem_cons.1 hx with e|e
  ·subst e
   refine⟨by simp,fun t ht=> ?_,⟨Int.le_refl _,Int.le_refl _⟩,⟨Int.le_refl _,Int.le_refl _⟩,⟨Int.le_refl _,Int.le_refl _⟩⟩;simp at ht;subst ht;refine⟨⟨hr.1,hr.2.1,hr.2.2.1,?_⟩,hr.2.2.2⟩;show(((⟨#[]⟩:ByteArray).size:Nat):Int)+arg<=12;have:(⟨#[]⟩:ByteArray).size=0:=rfl;rw[this];omega
  ·rw[List.eq_of_mem_replicate e]
   exact xQ _ _
 ·have:aF (dD workers room mode ks kind arg) i j=cN:=by
   unfold aF;rw[hlen]at hi hj;simp[dD,hi,hj]
  rw[this];exact⟨fun n m e=>by simp[cN]at e,a_ _,⟨Int.le_refl _,Int.le_refl _⟩,⟨Int.le_refl _,Int.le_refl _⟩,fun n hn=>by simp[cN]at hn,a_ _⟩
end Go.Proofs.YtfanaanofjhlkaaGreatDoor
