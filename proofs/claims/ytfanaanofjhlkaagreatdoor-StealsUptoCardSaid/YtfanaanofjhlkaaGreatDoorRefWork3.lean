import Derived.Test.YtfanaanofjhlkaaGreatDoorRefMessages
set_option maxHeartbeats 16000000
set_option maxRecDepth 100000
namespace Go.Proofs.YtfanaanofjhlkaaGreatDoor
open Go Go.RowKit Tryz
theorem aFl(i:Int)(w:World):Calls prog 75 #[.pointer none,.int .i64 i] w fun e w'=>e= .returned (.int .i64 1)/\w'=w:=by
 go_enter func75,ntmps75
 go_wp2_with (go_at_call 134;refine(sM _ _).mono ?_;rintro e w1 ⟨rfl,hq⟩;obtain rfl:=hq.symm)
 go_ret;exact⟨rfl,rfl⟩
theorem aEb(i:Int)(w:World):Calls prog 76 #[.pointer none,.int .i64 i] w fun e w'=>e= .returned (.int .i64 1)/\w'=w:=by
 go_enter func76,ntmps76
 go_wp2_with (go_at_call 134;refine(sM _ _).mono ?_;rintro e w1 ⟨rfl,hq⟩;obtain rfl:=hq.symm)
 go_ret;exact⟨rfl,rfl⟩
theorem aCh(F:Nat->Prop)(B:Nat)(s:aE)(i:Int)(w:World)(hr:dW F w B s)(hs:cX s):Calls prog 75 #[.pointer (some ⟨B,0,none⟩),.int .i64 i] w (dE F w B (fX s i)):=by
 have HE:Hid (Calls prog 134 #[.pointer (some ⟨B,0,none⟩),.int .i64 i] w fun e w'=>e= .returned (.int .i64 (eP s i))/\w=w'):=oQ F B s i w hr;have HR:=aC hr;by_cases h1:eP s i=0
 case neg=>
  have HS:Hid (fX s i=(s,eP s i)):=by show _=_;simp[fX,h1]
  obtain⟨e1,he1⟩:∃e1,eP s i=e1:=⟨_,rfl⟩;rw[he1]at HE h1 HS;have hb:(e1==0)=false:=by rw[g_];exact h1
  clear he1 h1 hr;go_enter func75,ntmps75
  go_wp2_with (go_at_call 134;refine HE.out.mono ?_;rintro e w1 ⟨rfl,rfl⟩)
  go_ret;rw[HS.out];exact dE.same HR.out _
 obtain⟨hi0,hi1⟩:=oG h1;rw[h1]at HE;obtain⟨k,rfl⟩:=Int.eq_ofNat_of_zero_le hi0;obtain⟨m,hm⟩:∃m,s.way[k]?= some m:=⟨_,b_ (by omega)⟩;have HS:Hid (fX s k=({s with way:=s.way.take k++s.way.drop (k+1)},0)):=by show _=_;simp[fX,h1]
 obtain⟨part,hF,hat⟩:=hr;obtain⟨kv,wv,lv,yv,vv,av,ps,rows,h⟩:=hat.opened;have HO:Hid (Calls prog 135 #[.pointer (some ⟨B,0,none⟩),.int .i64 (k:Int)] w _):=uD h (by have:=hs.way;omega) k m hm;have HF:=aC hF;clear h hat hF h1;go_enter func75,ntmps75
 go_wp2_with (first
  |(go_at_call 134;refine HE.out.mono ?_;rintro e w1 ⟨rfl,rfl⟩)
  |(go_at_call 135;refine HO.out.mono ?_;rintro e w2 ⟨rfl,part2,yv2,h2,hm2⟩))
 go_ret;rw[HS.out];exact dE.of rfl h2 hm2 HF.out
theorem aBc(F:Nat->Prop)(B:Nat)(s:aE)(i:Int)(w:World)(hr:dW F w B s)(hs:cX s):Calls prog 76 #[.pointer (some ⟨B,0,none⟩),.int .i64 i] w (dE F w B (fS s i)):=by
 have HE:Hid (Calls prog 134 #[.pointer (some ⟨B,0,none⟩),.int .i64 i] w fun e w'=>e= .returned (.int .i64 (eP s i))/\w=w'):=oQ F B s i w hr;have HR:=aC hr;by_cases h1:eP s i=0
 case neg=>
  have HS:Hid (fS s i=(s,eP s i)):=by show _=_;simp[fS,h1]
  obtain⟨e1,he1⟩:∃e1,eP s i=e1:=⟨_,rfl⟩;rw[he1]at HE h1 HS;have hb:(e1==0)=false:=by rw[g_];exact h1
  clear he1 h1 hr;go_enter func76,ntmps76
  go_wp2_with (go_at_call 134;refine HE.out.mono ?_;rintro e w1 ⟨rfl,rfl⟩)
  go_ret;rw[HS.out];exact dE.same HR.out _
 obtain⟨hi0,hi1⟩:=oG h1;rw[h1]at HE;obtain⟨k,rfl⟩:=Int.eq_ofNat_of_zero_le hi0;obtain⟨m,hm⟩:∃m,s.way[k]?= some m:=⟨_,b_ (by omega)⟩;have HS:Hid (fS s k=(cB s m,0)):=by show _=_;simp[fS,h1,hm]
 obtain⟨part,hF,hat⟩:=hr;obtain⟨kv,wv,lv,yv,vv,av,ps,rows,h⟩:=hat.opened;have HO:Hid (Calls prog 136 #[.pointer (some ⟨B,0,none⟩),.agg (aG m)] w _):=pN m h (by have:=hs.way;omega);obtain⟨gy,yc,hyf,hgy,hpy,hcm,-⟩:=h.msg hm;subst hyf;have b8:w.cell? ⟨B,8,none⟩=some (.slice (some ⟨gy,0,none⟩) s.way.length yc):=h.box.cell (o:=8) rfl;have m0:w.cell? ⟨gy,k*15,none⟩=some (.int .i64 m.src):=hcm 0 _ rfl;have m1:=hcm 1 _ rfl;have m2:=hcm 2 _ rfl;have m3:=hcm 3 _ rfl;have m4:=hcm 4 _ rfl;have m5:=hcm 5 _ rfl;have m6:=hcm 6 _ rfl;have m7:=hcm 7 _ rfl;have m8:=hcm 8 _ rfl;have m9:=hcm 9 _ rfl;have m10:=hcm 10 _ rfl;have m11:=hcm 11 _ rfl;have m12:=hcm 12 _ rfl;have m13:=hcm 13 _ rfl;have m14:=hcm 14 _ rfl;have HF:=aC hF;clear h hat hF h1 hcm;go_enter func76,ntmps76
 go_wp2_with (first
  |(go_at_call 134;refine HE.out.mono ?_;rintro e w1 ⟨rfl,rfl⟩)
  |(go_at_call 136;refine HO.out.mono ?_;rintro e w2 ⟨rfl,part2,yv2,h2,hm2⟩))
 go_ret;rw[HS.out];exact dE.of rfl h2 hm2 HF.out
def dO(s:aE)(l:aO):aE:=if l.known < (l.all.length:Int)then cB s (l.all[l.known.toNat]?.getD aH)else s
def fV(s:aE)(i:Int):aE×Int:=if dG s i≠0 then(s,dG s i)else((s.links[i.toNat]?.getD []).foldl dO s,0)
theorem uO(s:aE)(m:aI):∃y,cB s m={s with way:=y}/\(s.way.length<=60->y.length<=60):=by
 unfold cB;split
 ·exact⟨_,rfl,fun _=>by simp;omega⟩
 ·exact⟨s.way,rfl,fun h=>h⟩
theorem aKm(s:aE)(l:aO):∃y,dO s l={s with way:=y}/\(s.way.length<=60->y.length<=60):=by
 unfold dO;split
 ·exact uO s _
 ·exact⟨s.way,rfl,fun h=>h⟩
theorem tK:∀(ls:List aO) (s:aE),∃y,ls.foldl dO s={s with way:=y}/\(s.way.length<=60->y.length<=60)
 |[],s=>⟨s.way,rfl,fun h=>h⟩
 |l :: r,s=>by
  obtain⟨y,h1,h2⟩:=aKm s l;obtain⟨y',h3,h4⟩:=tK r {s with way:=y};rw[List.foldl_cons,h1];exact⟨y',h3,fun h=>h4 (h2 h)⟩
theorem lG.thing{X:Nat->Prop}{w:World}{q:Nat}{l:aO}{m:aI}{k:Nat}(h:lG X w q l)(hk:l.all[k]?= some m) :
  ∃ga ac kv,aD w q 184 (pL (.slice (some ⟨ga,0,none⟩) l.all.length ac) kv l)/\ga < w.heap.size/\∀o u,(aG m)[o]?= some u->w.cell? ⟨ga,k*15+o,none⟩=some u:=by
 obtain⟨av,kv,h1,h2,h3,h4⟩:=h;obtain⟨ga,ac,hf,-,hgl⟩:=World.ownsRow.form h3.1 (by have:=(c_.1 hk).1;omega);subst hf;refine⟨ga,ac,kv,h1,hgl,fun o u ho=> ?_⟩;have:=h3.1.cells (g:=ga) rfl _ u (dZ (sz:=15) (enc:=aK) (fun _=>rfl) l.all k m o u hk (by simpa[aK]using ho));rwa [dP]at this
theorem aFb(i:Int)(w:World):Calls prog 77 #[.pointer none,.int .i64 i] w fun e w'=>e= .returned (.int .i64 1)/\w'=w:=by
 go_enter func77,ntmps77
 go_wp2_with (go_at_call 129;refine(qD _ _).mono ?_;rintro e w1 ⟨rfl,hq⟩;obtain rfl:=hq.symm)
 go_ret;exact⟨rfl,rfl⟩
theorem aCd(F:Nat->Prop)(B N:Nat)(s:aE)(i:Int)(w:World)(hr:dW F w B s)(hs:cX s)(hN:dS N s):Calls prog 77 #[.pointer (some ⟨B,0,none⟩),.int .i64 i] w (dE F w B (fV s i)):=by
 have HE:Hid (Calls prog 129 #[.pointer (some ⟨B,0,none⟩),.int .i64 i] w fun e w'=>e= .returned (.int .i64 (dG s i))/\w=w'):=(oC F B s i w hr).mono fun e w' h=>⟨h.1,h.2.symm⟩
 have HR:=aC hr;by_cases h1:dG s i=0
 case neg=>
  have HS:Hid (fV s i=(s,dG s i)):=by show _=_;simp[fV,h1]
  obtain⟨e1,he1⟩:∃e1,dG s i=e1:=⟨_,rfl⟩;rw[he1]at HE h1 HS;have hb:(e1==0)=false:=by rw[g_];exact h1
  clear he1 h1 hr;go_enter func77,ntmps77
  go_wp2_with (go_at_call 129;refine HE.out.mono ?_;rintro e w1 ⟨rfl,rfl⟩)
  go_ret;rw[HS.out];exact dE.same HR.out _
 obtain⟨hi0,hi1⟩:=oJ h1;rw[h1]at HE;obtain⟨k,x,rfl,hx,hk5⟩:=hs.worker hi0 hi1;have hkl:=(c_.1 hx).1;obtain⟨ls,l0,hls,-⟩:=hs.link hkl hkl;have hlen:=hs.lrow ls (d_ hls);have hwk:s.workers=(ls.length:Int):=by rw[<-hs.len,hlen]
 have HS:Hid (fV s k=(ls.foldl dO s,0)):=by show _=_;simp[fV,h1,hls]
 obtain⟨part,hF,hat⟩:=hr;obtain⟨kv,wv,lv,yv,vv,av,ps,rows,h⟩:=hat.opened;have h5:=hs.five;have hl5:ls.length<=5:=by have:=hs.len;omega
 have HH:=aC h;have HF:=aC hF;have HHS:=aC hs;have HNN:=aC hN;have HLS:=aC hls;have HWK:=aC hwk;clear h hat hF h1 hs hN hls hwk hlen hx h5 hi0 hi1;go_enter func77,ntmps77
 go_wp2_with (go_at_call 129;refine HE.out.mono ?_;rintro e w1 ⟨rfl,rfl⟩)
 go_loopw [6] (fun iv wr=>∃(q:Nat) (part':Nat->Nat) (yv':Value),iv= .int .i64 (q:Int)/\q<=ls.length/\bE part' wr B ((ls.take q).foldl dO s) kv wv lv yv' vv av ps rows/\cI part part' w wr) (fun iv _=>ls.length - (intOf iv).toNat)
 case atStart=>exact⟨0,part,yv,rfl,Nat.zero_le _,HH.out,⟨aB.refl _ _,fun _ _ h=>h⟩⟩
 case round=>
  obtain⟨q,part',yv',rfl,hq,h,hm⟩:=hrel
  rename World=>wr
  obtain⟨y,hy,hy60⟩:=tK (ls.take q) s;obtain⟨s',hs'⟩:∃s',(ls.take q).foldl dO s=s':=⟨_,rfl⟩;rw[hs']at hy h;have hlk:s'.links=s.links:=by rw[hy]
  have hwk':s'.workers=(ls.length:Int):=by rw[hy];exact HWK.out
  have hway:s'.way.length<=60:=by rw[hy];exact hy60 HHS.out.way
  have b0:wr.cell? ⟨B,0,none⟩=some (.int .i64 (ls.length:Int)):=by rw[<-hwk'];exact h.box.cell (o:=0) rfl
  have HM:=aC hm;have HS':=aC hs';clear hm hy hy60 hwk';by_cases hlt:q < ls.length
  ·obtain⟨l,hl⟩:∃l,ls[q]?= some l:=⟨_,b_ hlt⟩
   have hnext:(ls.take (q+1)).foldl dO s=dO s' l:=by
    rw[List.take_add_one,hl,List.foldl_append,HS'.out];rfl
   have HNX:=aC hnext;obtain⟨r,p,gl,lc,gr,rc,hr,hp,hlv,hr1,hgl,hgr,cl,cr,hir,hjr⟩:=h.ptrL (i:=k) (j:=q) (by rw[hlk];exact HLS.out) hl;subst hlv;have hla:=(h.lat k r ls hr (by rw[hlk];exact HLS.out)).2.2 q p l hp hl;have b7:wr.cell? ⟨B,7,none⟩=some (.slice (some ⟨gl,0,none⟩) rows.length lc):=h.box.cell (o:=7) rfl;have i1:(0:Int)<=(k:Int):=by omega
   have i2:(k:Int) < (rows.length:Int):=by omega
   have j1:(0:Int)<=(q:Int):=by omega
   have j2:(q:Int) < (r.2.length:Int):=by omega
   have j3:(q:Int) < (ls.length:Int):=by omega
   have hkn:=HNN.out.known ls (d_ HLS.out) l (d_ hl);by_cases hopen:l.known < (l.all.length:Int)
   ·obtain⟨z,hz⟩:=Int.eq_ofNat_of_zero_le hkn
    obtain⟨m,hmz⟩:∃m,l.all[z]?= some m:=⟨_,b_ (by omega)⟩;have HAG:Hid (dO s' l=cB s' m):=by show _=_;unfold dO;rw[if_pos hopen,hz];simp[hmz]
    obtain⟨ga,ac,kv',hqb,hga,hcm⟩:=hla.thing hmz;have p1:wr.cell? ⟨p,1,none⟩=some (.int .i64 (z:Int)):=by rw[<-hz];exact hqb.cell (o:=1) rfl
    have p0:wr.cell? ⟨p,0,none⟩=some (.slice (some ⟨ga,0,none⟩) l.all.length ac):=hqb.cell (o:=0) rfl;have z1:(z:Int) < (l.all.length:Int):=by omega
    have z2:(0:Int)<=(z:Int):=by omega
    have m0:wr.cell? ⟨ga,z*15,none⟩=some (.int .i64 m.src):=hcm 0 _ rfl;have m1:=hcm 1 _ rfl;have m2:=hcm 2 _ rfl;have m3:=hcm 3 _ rfl;have m4:=hcm 4 _ rfl;have m5:=hcm 5 _ rfl;have m6:=hcm 6 _ rfl;have m7:=hcm 7 _ rfl;have m8:=hcm 8 _ rfl;have m9:=hcm 9 _ rfl;have m10:=hcm 10 _ rfl;have m11:=hcm 11 _ rfl;have m12:=hcm 12 _ rfl;have m13:=hcm 13 _ rfl;have m14:=hcm 14 _ rfl;have HO:Hid (∀U,Below wr.heap.size wr U->Calls prog 136 #[.pointer (some ⟨B,0,none⟩),.agg (aG m)] U fun e w'=>∃v,e= .returned v/\(v= .tuple #[]/\∃part2 yv2,bE part2 w' B (cB s' m) kv wv (.slice (some ⟨gl,0,none⟩) rows.length lc) yv2 vv av ps rows/\cI part' part2 wr w')):=fun U hU=>by
     obtain⟨h9,hm9⟩:=h.later hU;refine(pN m h9 (by omega)).mono ?_;rintro e w' ⟨rfl,part2,yv2,h2,hm2⟩;exact⟨_,rfl,rfl,part2,yv2,h2,hm9.trans hm2⟩
    clear h hla hcm hz hopen hkn hqb;clear hs' hnext
    go_upto_region 8 with fail
    go_quiet (fail)
    go_upto_region 9 with fail
    go_region_law (refine dY (by rfl) 136 _ _ _ (by rfl) (.pointer (some ⟨B,0,none⟩)) (.agg (aG m)) (by rfl) (by rfl) (enters_of func136 (by kernel_rfl) rfl) (HO.out _ (by first|exact(gB (e_ _ _) _).drew|exact gB (e_ _ _) _)) ?_;rintro v9 w9 ⟨rfl,part2,yv2,h2,hm2⟩)
    all_goals
     go_wp2_with fail
     go_roundw
     case rel=>exact⟨q+1,part2,yv2,by go_num,by omega,by rw[HNX.out,HAG.out];exact h2,HM.out.trans hm2⟩
     case measure=>simp[intOf];omega
   ·have HAG:Hid (dO s' l=s'):=by show _=_;unfold dO;rw[if_neg hopen]
    obtain⟨av',kv',hqb,-,har,-⟩:=hla;obtain⟨aa,ac,haf⟩:=bG har.1;subst haf;have p1:wr.cell? ⟨p,1,none⟩=some (.int .i64 l.known):=hqb.cell (o:=1) rfl;have p0:wr.cell? ⟨p,0,none⟩=some (.slice aa l.all.length ac):=hqb.cell (o:=0) rfl;have H2:=aC h;clear h hqb har hs' hnext hkn
    go_upto_region 8 with fail
    go_quiet (fail)
    go_wp2_with fail
    obtain⟨h9,hm9⟩:=H2.out.later (gB (e_ _ wr) nq)
    go_roundw
    case rel=>exact⟨q+1,_,yv',by go_num,by omega,by rw[HNX.out,HAG.out];exact h9,HM.out.trans hm9⟩
    case measure=>simp[intOf];omega
  ·have hqe:q=ls.length:=by omega
   have H2:=aC h;have HQ:=aC hqe;have j3:¬(q:Int) < (ls.length:Int):=by omega
   clear h hs' hqe
   go_wp2_with fail
   go_ret;rw[HS.out];refine dE.of (s':=s') ?_ H2.out HM.out HF.out;rw[<-HS'.out,HQ.out,List.take_length]
theorem aDq(F:Nat->Prop)(B N:Nat)(s:aE)(w:World)(hr:dW F w B s)(hf:kD s)(hs:cX s)(hN:dS N s)(hN':N<=90000000)(k:Nat)(hk0:k≠0)(x:cF)(hx:s.W[k]?= some x)(L:List aL)(t:aL)(hxt:x.tasks=L++ [t])(hw:dG s (k:Int)=0) :
  Calls prog 73 #[.pointer (some ⟨B,0,none⟩),.int .i64 (k:Int)] w (dE F w B (cJ s (k:Int))):=by
 have HE:Hid (Calls prog 129 #[.pointer (some ⟨B,0,none⟩),.int .i64 (k:Int)] w fun e w'=>e= .returned (.int .i64 0)/\w=w'):=by
  have h0:=oC F B s k w hr;rw[hw]at h0;exact h0.mono fun e w' h=>⟨h.1,h.2.symm⟩
 obtain⟨iT,hiT,hzT0,hzT1,hzT2⟩:=info_parts jU;obtain⟨part,hF,hat⟩:=hr;obtain⟨kv,wv,lv,yv,vv,av,ps,rows,h⟩:=hat.opened;have hin:=oJ hw;have hfive:=hs.five;obtain⟨p,gw,wc,hp,hwv,hgw,cw,hip,-⟩:=h.ptrW (i:=k) (x:=x) hx;subst hwv;obtain⟨tv,hpb,hpp,htr⟩:=h.wat k p x hp hx;have hfew:(x.tasks.length:Int)<=20:=by have h1:=hf.few x (d_ hx);have:=hf.rmax;omega
 have hgd:=hf.good x (d_ hx) t (by rw[hxt];simp);have hGd:gO s.ks t:=hgd.1;have h12:t.arg<=12:=hgd.2;have hprog:=hf.prog;obtain⟨gt,tc,htf,-,hgt⟩:=World.ownsRow.form htr.1 (by rw[hxt];simp);have HTR:=aC htr;obtain⟨ka,kc,hkf,-⟩:=id h.kinds;subst htf hkf;have htn:x.tasks.length=L.length+1:=by rw[hxt];simp
 have HTR':Hid (w.ownsRow 0 62 3 (.slice (some ⟨gt,0,none⟩) (L.length+1) tc) (L.length+1) (L.flatMap aJ++aJ t)):=by
  have h9:=htr.1;rw[htn,hxt,List.flatMap_append]at h9;show w.ownsRow _ _ _ _ _ _;simpa using h9
 have hcell:∀j u,(aJ t)[j]?= some u->w.cell? ⟨gt,L.length*3+j,none⟩=some u:=fun j u hj=>by
  have h1:=HTR'.out.cells (g:=gt) rfl (L.length*3+j) u (by
   have hfl:(L.flatMap aJ).length=L.length*3:=fL (sz:=3) (enc:=aJ) (fun _=>rfl) L;rw[i7 (by omega),hfl,show L.length*3+j - L.length*3=j from by omega];exact hj)
  rwa [dP]at h1
 have e0:w.cell? ⟨gt,L.length*3,none⟩=some (.string t.id):=hcell 0 _ rfl;have e1:w.cell? ⟨gt,L.length*3+1,none⟩=some (.int .i64 t.kind):=hcell 1 _ rfl;have e2:w.cell? ⟨gt,L.length*3+2,none⟩=some (.int .i64 t.arg):=hcell 2 _ rfl;have t0':w.cell? ⟨p,0,none⟩=some (.slice (some ⟨gt,0,none⟩) (L.length+1) tc):=by rw[<-htn];exact hpb.cell (o:=0) rfl
 have b1:w.cell? ⟨B,1,none⟩=some (.int .i64 s.room):=h.box.cell (o:=1) rfl;have b3:w.cell? ⟨B,3,none⟩=some (.slice ka s.ks.length kc):=h.box.cell (o:=3) rfl;have b4:w.cell? ⟨B,4,none⟩=some (.int .i64 s.kind):=h.box.cell (o:=4) rfl;have b5:w.cell? ⟨B,5,none⟩=some (.int .i64 s.arg):=h.box.cell (o:=5) rfl;have b6:w.cell? ⟨B,6,none⟩=some (.slice (some ⟨gw,0,none⟩) ps.length wc):=h.box.cell (o:=6) rfl;have hL20:L.length<=19:=by omega
 have hch3:(aW s.ks t).length<=3:=qA hprog t;have HKS:=aC h.kinds;have hw1:IntKind.i64.wrap (((L.length+1:Nat):Int) - 1)=(L.length:Int):=by rw[IntWalk.i64_in _ (by omega)];omega
 have hw2:(((L.length+1:Nat):Int) - 1)=(L.length:Int):=by omega
 have j1:(0:Int)<=(L.length:Int):=by omega
 have j2:(L.length:Int) < ((L.length+1:Nat):Int):=by omega
 have i1:(0:Int)<=(k:Int):=by omega
 have i2:(k:Int) < (ps.length:Int):=by omega
 have ik:((k:Int)==0)=false:=by rw[g_];omega
 have hk5:k < 5:=by omega
 have hbl:=h.box.lt;have HH:=aC h;have HF:=aC hF;have HPB:=aC hpb;have HXT:=aC hxt;have HX:=aC hx;have HWE:=aC hw;have HHS:=aC hs;have HNN:=aC hN;have HP:=aC hp;have hv0:(0:Int) < s.workers:=by omega
 have hkw:(k:Int) < s.workers:=hin.2;obtain⟨res,hres⟩:∃res,cJ s (k:Int)=res:=⟨_,rfl⟩;have HRES:Hid (cJ s (k:Int)=res):=hres;rw[hres];clear hres h hat hF hpb htr hcell hxt hx hw hgd hf hs hN hp hin;go_enter func73,ntmps73
 go_upto_region 9 with(go_at_call 129;refine HE.out.mono ?_;rintro e w1 ⟨rfl,rfl⟩)
 obtain⟨W1,hW1⟩:∃W1,w.alloc (Obj.cells #[.string t.id,.int .i64 t.kind,.int .i64 t.arg] 62)=W1:=⟨_,rfl⟩;have hb1:Below w.heap.size w W1:=by rw[<-hW1];exact(e_ _ _).alloc (a_ _) _
 have HT1:Hid (aD W1 w.heap.size 62 #[.string t.id,.int .i64 t.kind,.int .i64 t.arg]):=by rw[<-hW1];exact aD.new w _ _
 have SZ1:Hid (W1.heap.size=w.heap.size+1):=by show _=_;rw[<-hW1];simp
 rw[hW1];clear hW1;have HB1:=aC hb1;have HKU:Hid (∀U,Below w.heap.size w U->bH (fun b=>part b=6/\b < w.heap.size) U (.slice ka s.ks.length kc) s.ks):=fun U hU=>HKS.out.below.kept (aB.of_below (X:=fun b=>w.heap.size<=b) hU (fun _ _ h=>h)) (fun b h=>by omega)
 have HCHI:Hid (∀U,Below W1.heap.size W1 U->Calls prog 130 #[.agg #[.slice ka s.ks.length kc,.int .i64 s.kind,.int .i64 s.arg],.agg #[.string t.id,.int .i64 t.kind,.int .i64 t.arg]] U fun e w'=>∃v,e= .returned v/\(w'.ownsRow W1.heap.size 62 3 v (aW s.ks t).length ((aW s.ks t).flatMap aJ)/\Below W1.heap.size W1 w')):=fun U hU=>by
  refine(sF _ ka kc s.kind s.arg s.ks t U (HKU.out U (hb1.trans (hU.mono (by have:=SZ1.out;omega)))) hprog hGd).mono ?_;rintro e w' ⟨v,rfl,h1,h2,h3⟩;exact⟨v,rfl,aP h1 (aB.refl (fun _=>False) _) (fun _ _ h=>h) hU.size,hU.trans (h3.mono hU.size)⟩
 have d3:=(hb1.cell (p:=⟨B,3,none⟩) hbl).trans b3;have d4:=(hb1.cell (p:=⟨B,4,none⟩) hbl).trans b4;have d5:=(hb1.cell (p:=⟨B,5,none⟩) hbl).trans b5;have x0:=HT1.out.cell (o:=0) rfl;have x1:=HT1.out.cell (o:=1) rfl;have x2:=HT1.out.cell (o:=2) rfl;clear b3 b4 b5 hb1
 go_cut [9] (fun cv wx=>wx.ownsRow W1.heap.size 62 3 cv (aW s.ks t).length ((aW s.ks t).flatMap aJ)/\Below W1.heap.size W1 wx)
 case first=>
  go_region_law (refine dY (by rfl) 130 _ _ _ (by rfl) (.agg #[.slice ka s.ks.length kc,.int .i64 s.kind,.int .i64 s.arg]) (.agg #[.string t.id,.int .i64 t.kind,.int .i64 t.arg]) (by rfl) (by rfl) (enters_of func130 (by kernel_rfl) rfl) (HCHI.out _ (by first|assumption|exact e_ _ _|exact(e_ _ _).drew|exact Below.drew (by assumption))) ?_;rintro v9 w9 ⟨hr9,hb9⟩)
  all_goals
   go_wp2_with fail
   go_meet
   case rel=>exact⟨hr9,hb9⟩
 case rest=>
  obtain⟨hcv,hb2⟩:=hcut
  rename World=>w2
  have HCV:=aC hcv;have HB2:=aC hb2;have sz2:=hb2.size;obtain⟨ca,cc,hcf⟩:=bG hcv;subst hcf;have hbw2:Below w.heap.size w w2:=HB1.out.trans (hb2.mono (by have:=SZ1.out;omega));have HBW2:=aC hbw2;have r1:=(hbw2.cell (p:=⟨B,1,none⟩) hbl).trans b1;clear d3 d4 d5 x0 x1 x2 hcv hb2 b1;obtain⟨c,hc⟩:∃c,(aW s.ks t).length=c:=⟨_,rfl⟩;have HCL:Hid ((aW s.ks t).length=c):=hc;rw[hc]at hch3 HCV;rw[hc];clear hc;have hwa:IntKind.i64.wrap ((L.length:Int)+(c:Int))=(L.length:Int)+(c:Int):=IntWalk.i64_in _ (by omega);by_cases hov:s.room < (L.length:Int)+(c:Int)
  ·have HS:Hid (res=({s with over:=true},6)):=by
    show res=_;rw[<-HRES.out];simp only[cJ,HWE.out,ne_eq,not_true_eq_false,if_false,Int.toNat_natCast,HX.out,HXT.out,List.getLast?_append,List.getLast?_singleton,Option.some_or,HCL.out,f_,List.length_singleton];rw[if_pos (by omega)]
   have hb9:=HH.out.box.below HBW2.out hbl;have f13:=hb9.frozen 13;have c13:=hb9.cell (o:=13) rfl;have HB9:=aC hb9;clear hb9
   go_wp2_with fail
   go_ret;have k2:aB (·= B) w (w2.setCell ⟨B,13,none⟩ (.bool true)):=(aB.of_below HBW2.out (X:=(·= B)) (fun b h1 h2=>by omega)).andThen ((aB.refl (·= B) w2).setCell (.inl (by rfl)) _) (fun b _ h=>h);obtain⟨h5,hm5⟩:=HH.out.flags (ar:=s.around) (ov:=true) (dn:=s.done) k2 (HB9.out.setAt 13 _);rw[HS.out];exact dE.of rfl h5 hm5 HF.out
  ·have hno:¬s.room < (L.length:Int)+(c:Int):=hov
   have HPW2:Hid (aD w2 p 180 (fB (.slice (some ⟨gt,0,none⟩) (L.length+1) tc) x)):=by
    have:=HPB.out;rw[htn]at this;exact this.below HBW2.out this.lt
   have p0:=HPW2.out.cell (o:=0) rfl;have f0:=HPW2.out.frozen 0;have HNW:Hid (∀j u,(L.flatMap aJ)[j]?= some u->∃b,(some ⟨gt,0,none⟩:Option Addr)=some b/\w2.cell? (b.add j)=some u):=fun j u hj=>by
    have h1:=HTR'.out.cells (g:=gt) rfl j u (by rw[List.getElem?_append_left (c_.1 hj).1];exact hj);rw[dP]at h1;refine⟨_,rfl,?_⟩;rw[dP];exact(HBW2.out.cell (p:=⟨gt,j,none⟩) hgt).trans h1
   have HFL:Hid ((L.flatMap aJ).length=L.length*3):=fL (sz:=3) (enc:=aJ) (fun _=>rfl) L;have HFC:Hid (((aW s.ks t).flatMap aJ).length=c*3):=by show _=_;rw[<-HCL.out];exact fL (sz:=3) (enc:=aJ) (fun _=>rfl) _
   have j3:(L.length:Int)<=(tc:Int):=by
    rcases HTR'.out.2 with⟨h0,_⟩|⟨g',cap',cur,h0,_,_,h1,_⟩
    ·cases h0
    ·cases h0;omega
   have j4:L.length<=tc:=by omega
   go_upto_region 15 with(at_builtin;refine kE rfl _ _ _ rfl w2.heap.size 62 iT _ 3 32 underlying58 hiT hzT0 hzT1 hzT2 rfl (by omega) (.slice none 0 0) 0 [] rfl (World.ownsRow_nil _ _ _ _) (some ⟨gt,0,none⟩) L.length tc (L.flatMap aJ) rfl HFL.out HNW.out (iZ lA _) (by unfold maxLen;omega) (by omega) (a_ _) ?_;intro v3 w3 hown3 hgrow3;rw[Nat.zero_add,List.nil_append]at hown3;obtain⟨a3,c3,rfl⟩:=bG hown3)
   have HS:Hid (res=(aR {s with W:=s.W.set k {x with tasks:=L++aW s.ks t}} {aH with src:=k,dst:=0,kind:=4,v:=(t.id,cQ s.ks t)},0)):=by
    show res=_;rw[<-HRES.out];simp only[cJ,HWE.out,ne_eq,not_true_eq_false,if_false,Int.toNat_natCast,HX.out,HXT.out,List.getLast?_append,List.getLast?_singleton,Option.some_or,HCL.out,f_,List.length_singleton,List.dropLast_concat];rw[if_neg (by omega),if_neg (by omega)]
   have k23:aB (fun _=>False) w2 w3:=aB.grown hgrow3 (fun r e=>by cases e);have HK23:=aC k23;have sz3:=k23.size;have hbw3:Below w.heap.size w w3:=HBW2.out.trans (k23.below (by have:=HBW2.out.size;omega) (fun _ h=>h.elim));have HBW3:=aC hbw3;have HOWN3:=aC hown3;have HPW3:Hid (aD w3 p 180 (fB (.slice (some ⟨gt,0,none⟩) (L.length+1) tc) x)):=HPW2.out.kept k23 (fun h=>h);have HCV3:Hid (w3.ownsRow W1.heap.size 62 3 (.slice ca c cc) c ((aW s.ks t).flatMap aJ)):=aP HCV.out k23 (fun _ _ h=>h) (a_ _);have HNC:Hid (∀j u,((aW s.ks t).flatMap aJ)[j]?= some u->∃b,ca=some b/\w3.cell? (b.add j)=some u):=fun j u hj=>by
    obtain⟨a9,c9,h9,hc9⟩:=jL HCV3.out;cases h9;obtain⟨g,h1,h2,h3,h4⟩:=hc9 j u hj;exact⟨_,h1,by rw[dP];exact h4⟩
   have hsW:w.heap.size<=w2.heap.size:=HBW2.out.size;clear p0 f0 hgrow3 hown3 k23 hbw3 r1
   go_upto_region 16 with(at_builtin;refine kE rfl _ _ _ rfl w2.heap.size 62 iT _ 3 32 underlying58 hiT hzT0 hzT1 hzT2 rfl (by omega) (.slice a3 L.length c3) L.length (L.flatMap aJ) rfl HOWN3.out ca c cc ((aW s.ks t).flatMap aJ) rfl HFC.out HNC.out (iZ lA _) (by unfold maxLen;omega) (by omega) (by omega) ?_;intro v4 w4 hown4 hgrow4;obtain⟨a4,c4,rfl⟩:=bG hown4;have hpw4:aD w4 p 180 (fB (.slice (some ⟨gt,0,none⟩) (L.length+1) tc) x):=(hgrow4.block p HPW3.out.lt (fun e=>bF HOWN3.out HPW3.out (by decide) e.symm)).trans HPW3.out;have p0:=hpw4.cell (o:=0) rfl;have f0:=hpw4.frozen 0)
   obtain⟨W5,hW5⟩:∃W5,w4.setCell ⟨p,0,none⟩ (.slice a4 (L.length+c) c4)=W5:=⟨_,rfl⟩;have HPW5:Hid (aD W5 p 180 (fB (.slice a4 (L.length+c) c4) {x with tasks:=L++aW s.ks t})):=by rw[<-hW5];exact hpw4.setAt 0 _
   have k34:aB (fun b=>w2.heap.size<=b) w3 w4:=aB.grown hgrow4 (fun r e=>(HOWN3.out.lt r e).1);have k45:aB (·= p) w4 W5:=by rw[<-hW5];exact(aB.refl _ _).setCell (.inl (by rfl)) _
   have HROW5:Hid (W5.ownsRow w2.heap.size 62 3 (.slice a4 (L.length+c) c4) (L.length+c) (L.flatMap aJ++(aW s.ks t).flatMap aJ)):=aP hown4 k45 (fun g e h=>by subst h;exact bF hown4 hpw4 (by decide) e) (a_ _);have k5:aB (·= p) w W5:=((aB.of_below HBW3.out (X:=(·= p)) (fun b h1 h2=>by omega)).andThen k34 (fun b h1 h2=>by omega)).andThen k45 (fun b _ h=>h);have HT5:Hid (aD W5 w.heap.size 62 #[.string t.id,.int .i64 t.kind,.int .i64 t.arg]):=by
    have h2:aD w2 w.heap.size 62 #[.string t.id,.int .i64 t.kind,.int .i64 t.arg]:=HT1.out.below HB2.out (by have:=SZ1.out;omega);have h3:=h2.kept HK23.out (fun h=>h);have h4:=h3.kept k34 (by have:=h2.lt;omega);exact h4.kept k45 (by have:=HPB.out.lt;omega)
   obtain⟨h5,hm5⟩:=HH.out.reworker (x':={x with tasks:=L++aW s.ks t}) (by omega) HP.out (k5.mono (fun g _ e=>by rw[e];exact hpp)) ⟨_,HPW5.out,.inl ⟨hpp,HPB.out.lt⟩,by
    show World.ownsRow _ _ _ _ _ (L++aW s.ks t).length _;rw[List.flatMap_append,f_,HCL.out];exact iX HROW5.out (Nat.zero_le _),fun g e=> .inr (by have:=(HROW5.out.lt g e).1;omega)⟩
   have hs5:cX {s with W:=s.W.set k {x with tasks:=L++aW s.ks t}}:=⟨by simpa using HHS.out.len,HHS.out.two,HHS.out.five,by simpa using HHS.out.llen,fun ls hl=>by simpa using HHS.out.lrow ls hl,HHS.out.way⟩;have hN5:dS N {s with W:=s.W.set k {x with tasks:=L++aW s.ks t}}:=⟨HNN.out.all,HNN.out.known,HNN.out.came,HNN.out.kept,fun y hy=>by
    rcases List.mem_or_eq_of_mem_set hy with h'|rfl
    ·exact HNN.out.sent y h'
    ·exact HNN.out.sent x (d_ HX.out),fun y hy=>by
    rcases List.mem_or_eq_of_mem_set hy with h'|rfl
    ·exact HNN.out.got y h'
    ·exact HNN.out.got x (d_ HX.out)⟩
   rw[hW5];clear hW5 hown4 hgrow4 hpw4 p0 f0 k34 k45;have HVAL:Hid (∀U,Below W5.heap.size W5 U->Calls prog 132 #[.agg #[.slice ka s.ks.length kc,.int .i64 s.kind,.int .i64 s.arg],.agg #[.string t.id,.int .i64 t.kind,.int .i64 t.arg]] U fun e w'=>∃v,e= .returned v/\(v= .agg #[.string t.id,.int .i64 (cQ s.ks t)]/\Below W5.heap.size W5 w')):=fun U hU=>by
    have hkU:bH (fun b=>part b=6/\b < w.heap.size) U (.slice ka s.ks.length kc) s.ks:=(HKS.out.below.kept k5 (fun b h h'=>by subst h';omega)).kept (aB.of_below (X:=fun b=>W5.heap.size<=b) hU (fun _ _ h=>h)) (fun b h=>by have:=k5.size;omega);exact(sK _ s.kind s.arg s.ks t _ U hkU hprog hGd.1 hGd.2.1 hGd.2.2.1 h12).mono fun e w' h=>⟨_,h.1,rfl,hU.trans (h.2.mono hU.size)⟩
   have HSND:Hid (∀U,Below W5.heap.size W5 U->Calls prog 133 #[.pointer (some ⟨B,0,none⟩),.agg (aG {aH with src:=k,dst:=0,kind:=4,v:=(t.id,cQ s.ks t)})] U fun e w'=>∃v,e= .returned v/\(v= .tuple #[]/\∃part2 yv2,bE part2 w' B (aR {s with W:=s.W.set k {x with tasks:=L++aW s.ks t}} {aH with src:=k,dst:=0,kind:=4,v:=(t.id,cQ s.ks t)}) (.slice ka s.ks.length kc) (.slice (some ⟨gw,0,none⟩) ps.length wc) lv yv2 vv av ps rows/\cI (ext w part (10+k)) part2 W5 w')):=fun U hU=>by
    obtain⟨h9,hm9⟩:=h5.later hU;refine(nA {aH with src:=k,dst:=0,kind:=4,v:=(t.id,cQ s.ks t)} h9 hs5 hN5 (by omega) ⟨i1,hkw⟩ ⟨Int.le_refl _,hv0⟩).mono ?_;rintro e w' ⟨rfl,part2,yv2,h2,hm2⟩;exact⟨_,rfl,rfl,part2,yv2,h2,hm9.trans hm2⟩
   have d3:=h5.box.cell (o:=3) rfl;have d4:=h5.box.cell (o:=4) rfl;have d5:=h5.box.cell (o:=5) rfl;have x0:=HT5.out.cell (o:=0) rfl;have x1:=HT5.out.cell (o:=1) rfl;have x2:=HT5.out.cell (o:=2) rfl;have HM5:=aC hm5;clear h5 hm5 k5
   go_upto_region 18 with fail
   go_region_law (first
    |(refine dY (by rfl) 132 _ _ _ (by rfl) (.agg #[.slice ka s.ks.length kc,.int .i64 s.kind,.int .i64 s.arg]) (.agg #[.string t.id,.int .i64 t.kind,.int .i64 t.arg]) (by rfl) (by rfl) (enters_of func132 (by kernel_rfl) rfl) (HVAL.out _ (by first|assumption|exact e_ _ _|exact(e_ _ _).drew|exact Below.drew (by assumption))) ?_;rintro v9 w9 ⟨rfl,hb9⟩)
    |(refine dY (by rfl) 133 _ _ _ (by rfl) (.pointer (some ⟨B,0,none⟩)) (.agg (aG {aH with src:=k,dst:=0,kind:=4,v:=(t.id,cQ s.ks t)})) (by rfl) (by rfl) (enters_of func133 (by kernel_rfl) rfl) (HSND.out _ (by first|assumption|exact e_ _ _|exact(e_ _ _).drew|exact Below.drew (by assumption))) ?_;rintro v8 w8 ⟨rfl,part2,yv2,h2,hm2⟩))
   all_goals
    go_wp2_with fail
    go_ret;rw[HS.out];exact dE.of rfl h2 (HM5.out.trans hm2) HF.out
theorem aEh(F:Nat->Prop)(B:Nat)(s:aE)(i:Int)(w:World)(hr:dW F w B s)(hw:¬dG s i=0) :
  Calls prog 73 #[.pointer (some ⟨B,0,none⟩),.int .i64 i] w (dE F w B (cJ s i)):=by
 have HE:Hid (Calls prog 129 #[.pointer (some ⟨B,0,none⟩),.int .i64 i] w fun e w'=>e= .returned (.int .i64 (dG s i))/\w=w'):=(oC F B s i w hr).mono fun e w' h=>⟨h.1,h.2.symm⟩
 have HR:=aC hr;have HS:Hid (cJ s i=(s,dG s i)):=by show _=_;simp[cJ,hw]
 obtain⟨e1,he1⟩:∃e1,dG s i=e1:=⟨_,rfl⟩;rw[he1]at HE hw HS;have hb:(e1==0)=false:=by rw[g_];exact hw
 clear he1 hw hr;go_enter func73,ntmps73
 go_wp2_with (go_at_call 129;refine HE.out.mono ?_;rintro e w1 ⟨rfl,rfl⟩)
 go_ret;rw[HS.out];exact dE.same HR.out _
theorem aFg(F:Nat->Prop)(B N:Nat)(s:aE)(i:Int)(w:World)(hr:dW F w B s)(hf:kD s)(hs:cX s)(hN:dS N s)(hN':N<=90000000)(hv:s.values.length<=90000000) :
  Calls prog 73 #[.pointer (some ⟨B,0,none⟩),.int .i64 i] w (dE F w B (cJ s i)):=by
 by_cases hi:i=0\/(eY s i).1=[]
 ·exact aCo F B s i w hr hf hv hi
 by_cases hw:dG s i=0
 ·obtain⟨h0,h1⟩:=oJ hw
  obtain⟨k,x,rfl,hx,-⟩:=hs.worker h0 h1;have ht:(eY s (k:Int)).1=x.tasks:=by
   unfold eY;rw[if_neg (by omega)];simp[hx]
  rw[ht]at hi;rcases List.eq_nil_or_concat x.tasks with h|⟨L,t,h⟩
  ·exact absurd (.inr h) hi
  ·exact aDq F B N s w hr hf hs hN hN' k (by intro e;exact hi (.inl (by omega))) x hx L t (by rw[h,List.concat_eq_append]) hw
 ·exact aEh F B s i w hr hw
end Go.Proofs.YtfanaanofjhlkaaGreatDoor
