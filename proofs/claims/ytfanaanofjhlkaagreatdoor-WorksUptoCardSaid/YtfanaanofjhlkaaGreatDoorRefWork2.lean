import Derived.Test.YtfanaanofjhlkaaGreatDoorRefWork
set_option maxHeartbeats 16000000
set_option maxRecDepth 100000
namespace Go.Proofs.YtfanaanofjhlkaaGreatDoor
open Go Go.RowKit Tryz
theorem aCo(F:Nat->Prop)(B:Nat)(s:aE)(i:Int)(w:World)(hr:dW F w B s)(hf:kD s)(hv:s.values.length<=90000000)(hi:i=0\/(eY s i).1=[]) :
  Calls prog 73 #[.pointer (some ⟨B,0,none⟩),.int .i64 i] w fun e w'=>e= .returned (.int .i64 (cJ s i).2)/\dW (fun b=>F b\/w.heap.size<=b) w' B (cJ s i).1/\aB F w w':=by
 have HE:Hid (Calls prog 129 #[.pointer (some ⟨B,0,none⟩),.int .i64 i] w fun e w'=>e= .returned (.int .i64 (dG s i))/\w'=w):=oC F B s i w hr;have HR0:Hid (dW (fun b=>F b\/w.heap.size<=b) w B s):=hr.kept (aB.refl (fun _=>False) w) (fun g _ h=>⟨fun h=>h,.inl h⟩);obtain⟨iT,hiT,hzT0,hzT1,hzT2⟩:=info_parts jU;by_cases hw:dG s i=0
 case neg=>
  have hs:cJ s i=(s,dG s i):=by simp[cJ,hw]
  rw[hs];obtain⟨e,he⟩:∃e,dG s i=e:=⟨_,rfl⟩;rw[he]at HE hw ⊢;have hb:(e==0)=false:=by rw[g_];exact hw
  clear hs he hr;go_enter func73,ntmps73
  go_wp2_with (go_at_call 129;refine HE.out.mono ?_;rintro e w1 ⟨rfl,rfl⟩)
  go_ret;exact⟨rfl,HR0.out,aB.refl _ _⟩
 have hin:0<=i/\i < s.workers:=by
  unfold dG at hw;split at hw
  ·omega
  ·rename_i h
   rw[hw]at h;omega
 obtain⟨k,rfl⟩:=Int.eq_ofNat_of_zero_le hin.1;have hlen:=hf.len;have hk:k < s.W.length:=by omega
 obtain⟨x,hx⟩:∃x,s.W[k]?= some x:=⟨_,b_ hk⟩;have htk:(eY s (k:Int)).1=x.tasks:=by
  unfold eY;rw[if_neg (by omega)];simp[hx]
 rw[htk]at hi;obtain⟨part,hpF,kv,wv,lv,yv,vv,av,ps,rows,hbR,hpR,hks,⟨hwr,hwl,hws⟩,⟨hlr,hll',hls⟩,hyr,hvr,har⟩:=hr;obtain⟨p,hp⟩:∃p,ps[k]?= some p:=⟨_,b_ (by omega)⟩;obtain⟨tv,hbp,hpp,htr⟩:=hws k p x hp hx;obtain⟨gw,wc,hwf,hgl,cg⟩:∃g c,wv= .slice (some ⟨g,0,none⟩) ps.length c/\g < w.heap.size/\w.cell? ⟨g,k,none⟩=some (.pointer (some ⟨p,0,none⟩)):=by
  obtain⟨a9,c9,rfl,hc9⟩:=jL hwr.1;obtain⟨g,rfl,h2,h3,h4⟩:=hc9 k _ (by have:=dZ (sz:=1) (enc:=jJ) (fun _=>rfl) ps k p 0 (.pointer (some ⟨p,0,none⟩)) hp rfl;rw[Nat.mul_one,Nat.add_zero]at this;exact this);exact⟨g,c9,rfl,h3,h4⟩
 subst hwf;have b6:=hbR.cell (o:=6) rfl;have t0:=hbp.cell (o:=0) rfl;have i1:(0:Int)<=(k:Int):=by omega
 have i2:(k:Int) < (ps.length:Int):=by omega
 have HBR:=aC hbR;have HBP:=aC hbp;have HX:Hid (s.W[k]?= some x):=hx;have hfew:(x.tasks.length:Int)<=20:=by have h1:=hf.few x (d_ hx);have:=hf.rmax;omega
 rw[hw]at HE;rcases List.eq_nil_or_concat x.tasks with hxt|⟨L,t,hxt⟩
 ·have hs:cJ s (k:Int)=(s,8):=by simp[cJ,hw,hx,hxt]
  rw[hs];have htv:∃a c,tv= .slice a 0 c:=by
   obtain⟨a,c,h⟩:=bG htr.1;rw[hxt]at h;exact⟨a,c,h⟩
  obtain⟨ta,tc,rfl⟩:=htv;clear hs hbR hbp hks hwr hws hlr hls hyr hvr har htr HBR HBP;go_enter func73,ntmps73
  go_wp2_with (go_at_call 129;refine HE.out.mono ?_;rintro e w1 ⟨rfl,rfl⟩)
  go_ret;exact⟨rfl,HR0.out,aB.refl _ _⟩
 rw[List.concat_eq_append]at hxt;have hk0:k=0:=by
  rcases hi with h|h
  ·omega
  ·rw[hxt]at h;simp at h
 subst hk0;have hgd:=hf.good x (d_ hx) t (by rw[hxt];simp);have hGd:gO s.ks t:=hgd.1;have h12:t.arg<=12:=hgd.2;have hprog:=hf.prog;obtain⟨gt,tc,htf,-,hgt⟩:=World.ownsRow.form htr.1 (by rw[hxt];simp);have HTR:=aC htr;obtain⟨ka,kc,hkf,-⟩:=id hks;subst htf hkf;have htn:x.tasks.length=L.length+1:=by rw[hxt];simp
 have HTR':Hid (w.ownsRow 0 62 3 (.slice (some ⟨gt,0,none⟩) (L.length+1) tc) (L.length+1) (L.flatMap aJ++aJ t)):=by
  have h9:=htr.1;rw[htn,hxt,List.flatMap_append]at h9;show w.ownsRow _ _ _ _ _ _;simpa using h9
 have hcell:∀j u,(aJ t)[j]?= some u->w.cell? ⟨gt,L.length*3+j,none⟩=some u:=fun j u hj=>by
  have h1:=HTR'.out.cells (g:=gt) rfl (L.length*3+j) u (by
   have hfl:(L.flatMap aJ).length=L.length*3:=fL (sz:=3) (enc:=aJ) (fun _=>rfl) L;rw[i7 (by omega),hfl,show L.length*3+j - L.length*3=j from by omega];exact hj)
  rwa [dP]at h1
 have e0:w.cell? ⟨gt,L.length*3,none⟩=some (.string t.id):=hcell 0 _ rfl;have e1:w.cell? ⟨gt,L.length*3+1,none⟩=some (.int .i64 t.kind):=hcell 1 _ rfl;have e2:w.cell? ⟨gt,L.length*3+2,none⟩=some (.int .i64 t.arg):=hcell 2 _ rfl;have t0':w.cell? ⟨p,0,none⟩=some (.slice (some ⟨gt,0,none⟩) (L.length+1) tc):=by rw[<-htn];exact t0
 have b1:w.cell? ⟨B,1,none⟩=some (.int .i64 s.room):=hbR.cell (o:=1) rfl;have b3:w.cell? ⟨B,3,none⟩=some (.slice ka s.ks.length kc):=hbR.cell (o:=3) rfl;have b4:w.cell? ⟨B,4,none⟩=some (.int .i64 s.kind):=hbR.cell (o:=4) rfl;have b5:w.cell? ⟨B,5,none⟩=some (.int .i64 s.arg):=hbR.cell (o:=5) rfl;have hL20:L.length<=19:=by omega
 have hch3:(aW s.ks t).length<=3:=qA hprog t;have HKS:=aC hks;have hw1:IntKind.i64.wrap (((L.length+1:Nat):Int) - 1)=(L.length:Int):=by rw[IntWalk.i64_in _ (by omega)];omega
 have hw2:(((L.length+1:Nat):Int) - 1)=(L.length:Int):=by omega
 have j1:(0:Int)<=(L.length:Int):=by omega
 have j2:(L.length:Int) < ((L.length+1:Nat):Int):=by omega
 have HPR:Hid (part B=1):=hpR;have HPF:=aC hpF;have HPP:Hid (part p=10+0):=hpp;have HP:Hid (ps[0]?= some p):=hp;have HWR:=aC hwr;have HWL:=aC hwl;have HWS:=aC hws;have HLR:=aC hlr;have HLL:=aC hll';have HLS:=aC hls;have HYR:=aC hyr;have HVR:=aC hvr;have HAR:=aC har;have HXT:Hid (x.tasks=L++ [t]):=hxt;have HWE:Hid (dG s ((0:Nat):Int)=0):=hw;clear hpF hbR hpR hks hwr hwl hws hlr hll' hls hyr hvr har hbp hpp htr hp hx htk hcell t0 hxt hi hw hgd;have hbl:=HBR.out.lt;obtain⟨res,hres⟩:∃res,cJ s ((0:Nat):Int)=res:=⟨_,rfl⟩;have HRES:Hid (cJ s ((0:Nat):Int)=res):=hres;rw[hres];clear hres;go_enter func73,ntmps73
 go_upto_region 9 with(go_at_call 129;refine HE.out.mono ?_;rintro e w1 ⟨rfl,hq⟩;obtain rfl:=hq.symm)
 obtain⟨W1,hW1⟩:∃W1,w.alloc (Obj.cells #[.string t.id,.int .i64 t.kind,.int .i64 t.arg] 62)=W1:=⟨_,rfl⟩;have hb1:Below w.heap.size w W1:=by rw[<-hW1];exact(e_ _ _).alloc (a_ _) _
 have HT1:Hid (aD W1 w.heap.size 62 #[.string t.id,.int .i64 t.kind,.int .i64 t.arg]):=by rw[<-hW1];exact aD.new w _ _
 have sz1:W1.heap.size=w.heap.size+1:=by rw[<-hW1];simp
 rw[hW1];clear hW1;have HB1:=aC hb1;have HKU:Hid (∀U,Below w.heap.size w U->bH (fun b=>part b=6/\b < w.heap.size) U (.slice ka s.ks.length kc) s.ks):=fun U hU=>HKS.out.below.kept (aB.of_below (X:=fun b=>w.heap.size<=b) hU (fun _ _ h=>h)) (fun b h=>by omega)
 have HCHI:Hid (∀U,Below W1.heap.size W1 U->Calls prog 130 #[.agg #[.slice ka s.ks.length kc,.int .i64 s.kind,.int .i64 s.arg],.agg #[.string t.id,.int .i64 t.kind,.int .i64 t.arg]] U fun e w'=>∃v,e= .returned v/\(w'.ownsRow W1.heap.size 62 3 v (aW s.ks t).length ((aW s.ks t).flatMap aJ)/\Below W1.heap.size W1 w')):=fun U hU=>by
  refine(sF _ ka kc s.kind s.arg s.ks t U (HKU.out U (hb1.trans (hU.mono (by omega)))) hprog hGd).mono ?_;rintro e w' ⟨v,rfl,h1,h2,h3⟩;exact⟨v,rfl,aP h1 (aB.refl (fun _=>False) _) (fun _ _ h=>h) hU.size,hU.trans (h3.mono hU.size)⟩
 have d3:=(hb1.cell (p:=⟨B,3,none⟩) hbl).trans b3;have d4:=(hb1.cell (p:=⟨B,4,none⟩) hbl).trans b4;have d5:=(hb1.cell (p:=⟨B,5,none⟩) hbl).trans b5;have x0:=HT1.out.cell (o:=0) rfl;have x1:=HT1.out.cell (o:=1) rfl;have x2:=HT1.out.cell (o:=2) rfl;clear b3 b4 b5 hb1
 go_cut [9] (fun cv wx=>wx.ownsRow W1.heap.size 62 3 cv (aW s.ks t).length ((aW s.ks t).flatMap aJ)/\Below W1.heap.size W1 wx)
 case first=>
  go_region_law (refine dY (by rfl) 130 _ _ _ (by rfl) (.agg #[.slice ka s.ks.length kc,.int .i64 s.kind,.int .i64 s.arg]) (.agg #[.string t.id,.int .i64 t.kind,.int .i64 t.arg]) (by rfl) (by rfl) (enters_of func130 (by kernel_rfl) rfl) (HCHI.out _ (by first|assumption|exact e_ _ _|exact(e_ _ _).drew|exact Below.drew (by assumption))) ?_;rintro v9 w9 ⟨hr9,hb9⟩)
  all_goals
   go_wp2_with fail
   go_meet
   case rel=>exact⟨hr9,hb9⟩
 case rest=>
  obtain⟨hcv,hb2⟩:=hcut
  rename World=>w2
  have HCV:=aC hcv;have HB2:=aC hb2;have sz2:=hb2.size;obtain⟨ca,cc,hcf⟩:=bG hcv;subst hcf;have hbw2:Below w.heap.size w w2:=HB1.out.trans (hb2.mono (by omega));have HBW2:=aC hbw2;have r1:=(hbw2.cell (p:=⟨B,1,none⟩) hbl).trans b1;clear d3 d4 d5 x0 x1 x2 hcv hb2 b1;obtain⟨c,hc⟩:∃c,(aW s.ks t).length=c:=⟨_,rfl⟩;have HCL:Hid ((aW s.ks t).length=c):=hc;rw[hc]at hch3 HCV;rw[hc];clear hc;have hg1:∀t,t≠0->t≠1->∀g,g < w.heap.size->part g=t->¬g=B/\part g=t:=fun t h0 h1 g hl e=>⟨fun h=>by subst h;have:=HPR.out;omega,e⟩
  have HG1:=aC hg1;clear hg1;have hwa:IntKind.i64.wrap ((L.length:Int)+(c:Int))=(L.length:Int)+(c:Int):=IntWalk.i64_in _ (by omega);by_cases hov:s.room < (L.length:Int)+(c:Int)
  ·have hs:cJ s ((0:Nat):Int)=({s with over:=true},6):=by
    simp only[cJ,HWE.out,ne_eq,not_true_eq_false,if_false,Int.toNat_natCast,HX.out,HXT.out,List.getLast?_append,List.getLast?_singleton,Option.some_or,HCL.out,f_,List.length_singleton];rw[if_pos (by omega)]
   have HS:Hid (res=({s with over:=true},6)):=HRES.out.symm.trans hs;have hb9:=HBR.out.below HBW2.out hbl;have f13:=hb9.frozen 13;have c13:=hb9.cell (o:=13) rfl;have HB9:=aC hb9;clear hs hb9
   go_wp2_with fail
   go_ret;rw[HS.out];have k2:aB (·= B) w (w2.setCell ⟨B,13,none⟩ (.bool true)):=(aB.of_below HBW2.out (X:=(·= B)) (fun b h1 h2=>by omega)).andThen ((aB.refl (·= B) w2).setCell (.inl (by rfl)) _) (fun b _ h=>h);refine⟨rfl,⟨part,fun b hb=> .inl (HPF.out b hb),⟨_,_,_,yv,vv,av,ps,rows,HB9.out.setAt 13 _,HPR.out,?_,⟨HWR.out.kept k2 (HG1.out 7 (by omega) (by omega)),HWL.out,fun i q y hq hy=>(HWS.out i q y hq hy).kept k2 (HG1.out _ (by omega) (by omega))⟩,⟨HLR.out.kept k2 (HG1.out 8 (by omega) (by omega)),HLL.out,fun i r ls hr hl=>(HLS.out i r ls hr hl).kept k2 (fun g hg' e=>⟨(HG1.out _ (by omega) (by omega) g hg' rfl).1,rfl⟩)⟩,HYR.out.kept k2 (HG1.out 2 (by omega) (by omega)),HVR.out.kept k2 (HG1.out 3 (by omega) (by omega)),HAR.out.kept k2 (HG1.out 4 (by omega) (by omega))⟩⟩,k2.mono (fun b _ h=>by subst h;exact HPF.out b (by have:=HPR.out;omega))⟩;exact(HKS.out.below.kept k2 (fun b hb=>(HG1.out 6 (by omega) (by omega) b hb.2 hb.1).1)).mono' (fun b hb=>hb.1)
  ·have hno:¬s.room < (L.length:Int)+(c:Int):=hov
   have HPW2:Hid (aD w2 p 180 (fB (.slice (some ⟨gt,0,none⟩) (L.length+1) tc) x)):=by
    have:=HBP.out;rw[htn]at this;exact this.below HBW2.out this.lt
   have p0:=HPW2.out.cell (o:=0) rfl;have f0:=HPW2.out.frozen 0;have HNW:Hid (∀j u,(L.flatMap aJ)[j]?= some u->∃b,(some ⟨gt,0,none⟩:Option Addr)=some b/\w2.cell? (b.add j)=some u):=fun j u hj=>by
    have h1:=HTR'.out.cells (g:=gt) rfl j u (by rw[List.getElem?_append_left (c_.1 hj).1];exact hj);rw[dP]at h1;refine⟨_,rfl,?_⟩;rw[dP];exact(HBW2.out.cell (p:=⟨gt,j,none⟩) hgt).trans h1
   have HFL:Hid ((L.flatMap aJ).length=L.length*3):=fL (sz:=3) (enc:=aJ) (fun _=>rfl) L;have HFC:Hid (((aW s.ks t).flatMap aJ).length=c*3):=by show _=_;rw[<-HCL.out];exact fL (sz:=3) (enc:=aJ) (fun _=>rfl) _
   have j3:(L.length:Int)<=(tc:Int):=by
    rcases HTR'.out.2 with⟨h0,_⟩|⟨g',cap',cur,h0,_,_,h1,_⟩
    ·cases h0
    ·cases h0;omega
   have j4:L.length<=tc:=by omega
   go_upto_region 15 with(at_builtin;refine kE rfl _ _ _ rfl w2.heap.size 62 iT _ 3 32 underlying58 hiT hzT0 hzT1 hzT2 rfl (by omega) (.slice none 0 0) 0 [] rfl (World.ownsRow_nil _ _ _ _) (some ⟨gt,0,none⟩) L.length tc (L.flatMap aJ) rfl HFL.out HNW.out (iZ lA _) (by unfold maxLen;omega) (by omega) (a_ _) ?_;intro v3 w3 hown3 hgrow3;rw[Nat.zero_add,List.nil_append]at hown3;obtain⟨a3,c3,rfl⟩:=bG hown3)
   have hs:cJ s ((0:Nat):Int)=({s with W:=s.W.set 0 {x with tasks:=L++aW s.ks t},values:=cP s.values (t.id,cQ s.ks t)},0):=by
    simp only[cJ,HWE.out,ne_eq,not_true_eq_false,if_false,Int.toNat_natCast,HX.out,HXT.out,List.getLast?_append,List.getLast?_singleton,Option.some_or,HCL.out,f_,List.length_singleton,List.dropLast_concat];rw[if_neg (by omega)];rfl
   have HS:Hid (res=({s with W:=s.W.set 0 {x with tasks:=L++aW s.ks t},values:=cP s.values (t.id,cQ s.ks t)},0)):=HRES.out.symm.trans hs;have k23:aB (fun _=>False) w2 w3:=aB.grown hgrow3 (fun r e=>by cases e);have HK23:=aC k23;have sz3:=k23.size;have hbw3:Below w.heap.size w w3:=HBW2.out.trans (k23.below (by have:=HBW2.out.size;omega) (fun _ h=>h.elim));have HBW3:=aC hbw3;have HOWN3:=aC hown3;have HPW3:Hid (aD w3 p 180 (fB (.slice (some ⟨gt,0,none⟩) (L.length+1) tc) x)):=HPW2.out.kept k23 (fun h=>h);have HCV3:Hid (w3.ownsRow W1.heap.size 62 3 (.slice ca c cc) c ((aW s.ks t).flatMap aJ)):=aP HCV.out k23 (fun _ _ h=>h) (a_ _);have HNC:Hid (∀j u,((aW s.ks t).flatMap aJ)[j]?= some u->∃b,ca=some b/\w3.cell? (b.add j)=some u):=fun j u hj=>by
    obtain⟨a9,c9,h9,hc9⟩:=jL HCV3.out;cases h9;obtain⟨g,h1,h2,h3,h4⟩:=hc9 j u hj;exact⟨_,h1,by rw[dP];exact h4⟩
   have hsW:w.heap.size<=w2.heap.size:=HBW2.out.size;clear p0 f0 hs hgrow3 hown3 k23 hbw3 r1
   go_upto_region 16 with(at_builtin;refine kE rfl _ _ _ rfl w2.heap.size 62 iT _ 3 32 underlying58 hiT hzT0 hzT1 hzT2 rfl (by omega) (.slice a3 L.length c3) L.length (L.flatMap aJ) rfl HOWN3.out ca c cc ((aW s.ks t).flatMap aJ) rfl HFC.out HNC.out (iZ lA _) (by unfold maxLen;omega) (by omega) (by omega) ?_;intro v4 w4 hown4 hgrow4;obtain⟨a4,c4,rfl⟩:=bG hown4;have hpw4:aD w4 p 180 (fB (.slice (some ⟨gt,0,none⟩) (L.length+1) tc) x):=(hgrow4.block p HPW3.out.lt (fun e=>bF HOWN3.out HPW3.out (by decide) e.symm)).trans HPW3.out;have p0:=hpw4.cell (o:=0) rfl;have f0:=hpw4.frozen 0)
   obtain⟨W5,hW5⟩:∃W5,w4.setCell ⟨p,0,none⟩ (.slice a4 (L.length+c) c4)=W5:=⟨_,rfl⟩;have hpB:p≠B:=fun e=>by have h1:=HPR.out;have h2:=HPP.out;rw[e]at h2;omega
   have HPW5:Hid (aD W5 p 180 (fB (.slice a4 (L.length+c) c4) {x with tasks:=L++aW s.ks t})):=by rw[<-hW5];exact hpw4.setAt 0 _
   have k34:aB (fun b=>w2.heap.size<=b) w3 w4:=aB.grown hgrow4 (fun r e=>(HOWN3.out.lt r e).1);have k45:aB (·= p) w4 W5:=by rw[<-hW5];exact(aB.refl _ _).setCell (.inl (by rfl)) _
   have HROW5:Hid (W5.ownsRow w2.heap.size 62 3 (.slice a4 (L.length+c) c4) (L.length+c) (L.flatMap aJ++(aW s.ks t).flatMap aJ)):=aP hown4 k45 (fun g e h=>by subst h;exact bF hown4 hpw4 (by decide) e) (a_ _);have k5:aB (·= p) w W5:=((aB.of_below HBW3.out (X:=(·= p)) (fun b h1 h2=>by omega)).andThen k34 (fun b h1 h2=>by omega)).andThen k45 (fun b _ h=>h);have HK5:=aC k5;have sz5:=k5.size;have HT5:Hid (aD W5 w.heap.size 62 #[.string t.id,.int .i64 t.kind,.int .i64 t.arg]):=by
    have h2:aD w2 w.heap.size 62 #[.string t.id,.int .i64 t.kind,.int .i64 t.arg]:=HT1.out.below HB2.out (by omega);have h3:=h2.kept HK23.out (fun h=>h);have h4:=h3.kept k34 (by have:=h2.lt;omega);exact h4.kept k45 (by have:=HPW3.out.lt;have:=HBP.out.lt;omega)
   have HBR5:Hid (aD W5 B 141 (gK s (.slice ka s.ks.length kc) (.slice (some ⟨gw,0,none⟩) ps.length wc) lv yv vv av)):=HBR.out.kept k5 (fun h=>hpB h.symm);have hxm:0 < s.W.length:=hk;rw[hW5];clear hW5 hown4 hgrow4 hpw4 p0 f0 k34 k45 k5;obtain⟨va,vc,hvf⟩:=bG HVR.out.1;subst hvf;have HKU5:Hid (∀U,Below W5.heap.size W5 U->bH (fun b=>part b=6/\b < w.heap.size) U (.slice ka s.ks.length kc) s.ks):=fun U hU=>(HKS.out.below.kept HK5.out (fun b h h'=>by subst h';have:=HPP.out;omega)).kept (aB.of_below (X:=fun b=>W5.heap.size<=b) hU (fun _ _ h=>h)) (fun b h=>by omega)
   have HVAL:Hid (∀U,Below W5.heap.size W5 U->Calls prog 132 #[.agg #[.slice ka s.ks.length kc,.int .i64 s.kind,.int .i64 s.arg],.agg #[.string t.id,.int .i64 t.kind,.int .i64 t.arg]] U fun e w'=>∃v,e= .returned v/\(v= .agg #[.string t.id,.int .i64 (cQ s.ks t)]/\Below W5.heap.size W5 w')):=fun U hU=>
    (sK _ s.kind s.arg s.ks t _ U (HKU5.out U hU) hprog hGd.1 hGd.2.1 hGd.2.2.1 h12).mono fun e w' h=>⟨_,h.1,rfl,hU.trans (h.2.mono hU.size)⟩
   have HVR5:Hid (W5.ownsRow 0 92 2 (.slice va s.values.length vc) s.values.length (fI s.values)):=aP HVR.out.1 HK5.out (fun g e h=>by subst h;have h1:=HVR.out.2 g e;have h2:=HPP.out;omega) (a_ _);have HPUT:Hid (∀U,Below W5.heap.size W5 U->Calls prog 131 #[.slice va s.values.length vc,.agg #[.string t.id,.int .i64 (cQ s.ks t)]] U fun e w'=>∃v,e= .returned v/\(w'.ownsRow W5.heap.size 92 2 v (cP s.values (t.id,cQ s.ks t)).length (fI (cP s.values (t.id,cQ s.ks t)))/\Below W5.heap.size W5 w')):=fun U hU=>by
    have hrowU:=gP HVR5.out hU (fun g' hg'=>(HVR5.out.lt g' hg').2);refine(uF _ s.values (t.id,cQ s.ks t) U (tB hrowU).2 (by omega)).mono ?_;rintro e w' ⟨v,rfl,h1,h2⟩;exact⟨v,rfl,aP h1 (aB.refl (fun _=>False) _) (fun _ _ h=>h) hU.size,hU.trans (h2.mono hU.size)⟩
   obtain⟨n8,hn8⟩:∃n8,(cP s.values (t.id,cQ s.ks t)).length=n8:=⟨_,rfl⟩;have HN8:Hid ((cP s.values (t.id,cQ s.ks t)).length=n8):=hn8;rw[hn8]at HPUT;clear hn8;have d3:=HBR5.out.cell (o:=3) rfl;have d4:=HBR5.out.cell (o:=4) rfl;have d5:=HBR5.out.cell (o:=5) rfl;have d9:=HBR5.out.cell (o:=9) rfl;have x0:=HT5.out.cell (o:=0) rfl;have x1:=HT5.out.cell (o:=1) rfl;have x2:=HT5.out.cell (o:=2) rfl
   go_upto_region 17 with fail
   go_region_law (first
    |(refine dY (by rfl) 132 _ _ _ (by rfl) (.agg #[.slice ka s.ks.length kc,.int .i64 s.kind,.int .i64 s.arg]) (.agg #[.string t.id,.int .i64 t.kind,.int .i64 t.arg]) (by rfl) (by rfl) (enters_of func132 (by kernel_rfl) rfl) (HVAL.out _ (by first|assumption|exact e_ _ _|exact(e_ _ _).drew|exact Below.drew (by assumption))) ?_;rintro v9 w9 ⟨rfl,hb9⟩;have hB9:=HBR5.out.below hb9 HBR5.out.lt;have g9:=hB9.cell (o:=9) rfl)
    |(refine dY (by rfl) 131 _ _ _ (by rfl) (.slice va s.values.length vc) (.agg #[.string t.id,.int .i64 (cQ s.ks t)]) (by rfl) (by rfl) (enters_of func131 (by kernel_rfl) rfl) (HPUT.out _ (by first|assumption|exact e_ _ _|exact(e_ _ _).drew|exact Below.drew (by assumption))) ?_;rintro v8 w8 ⟨hrow8,hb8⟩;obtain⟨a8,c8,rfl⟩:=bG hrow8;have hB8:=HBR5.out.below hb8 HBR5.out.lt;have i9:=hB8.cell (o:=9) rfl;have f9:=hB8.frozen 9))
   all_goals
    go_wp2_with fail
    go_ret;rw[HS.out];have k86:aB (·= B) w8 (w8.setCell ⟨B,9,none⟩ (.slice a8 n8 c8)):=(aB.refl _ _).setCell (.inl (by rfl)) _;obtain⟨W6,hW6⟩:∃W6,w8.setCell ⟨B,9,none⟩ (.slice a8 n8 c8)=W6:=⟨_,rfl⟩;have hBR6:aD W6 B 141 (gK {s with W:=s.W.set 0 {x with tasks:=L++aW s.ks t},values:=cP s.values (t.id,cQ s.ks t)} (.slice ka s.ks.length kc) (.slice (some ⟨gw,0,none⟩) ps.length wc) lv yv (.slice a8 n8 c8) av):=by rw[<-hW6];exact hB8.setAt 9 _
    rw[hW6]at k86;rw[hW6];have k56:aB (fun b=>b=B\/W5.heap.size<=b) W5 W6:=(aB.of_below hb8 (X:=fun b=>b=B\/W5.heap.size<=b) (fun _ _ h=> .inr h)).trans (k86.mono (fun _ _ h=> .inl h));have kk:aB (fun b=>b=p\/b=B) w W6:=(HK5.out.mono (fun _ _ h=> .inl h)).andThen k56 (fun b h1 h2=>by rcases h2 with h2|h2;exact .inr h2;omega);have hg:∀t,t≠0->t≠1->t≠10->∀g,g < w.heap.size->part g=t->¬(g=p\/g=B)/\(fun b=>if b < w.heap.size then part b else if b < W5.heap.size then 10 else 3) g=t:=fun t h0 h1 h10 g hl e=>⟨fun h=>by
     rcases h with h|h
     ·subst h;have:=HPP.out;omega
     ·subst h;have:=HPR.out;omega,(if_pos hl).trans e⟩
    have hpl:=HBP.out.lt;refine⟨rfl,⟨fun b=>if b < w.heap.size then part b else if b < W5.heap.size then 10 else 3,fun b hb=> ?_,⟨_,_,lv,yv,_,av,ps,rows,hBR6,(if_pos hbl).trans HPR.out,?_,⟨HWR.out.kept kk (hg 7 (by omega) (by omega) (by omega)),by rw[HWL.out];simp,fun i q y hq hy=> ?_⟩,⟨HLR.out.kept kk (hg 8 (by omega) (by omega) (by omega)),HLL.out,fun i r ls hr hl=>(HLS.out i r ls hr hl).kept kk (fun g hg' e=>⟨(hg _ (by omega) (by omega) (by omega) g hg' rfl).1,(hg _ (by omega) (by omega) (by omega) g hg' rfl).2⟩)⟩,HYR.out.kept kk (hg 2 (by omega) (by omega) (by omega)),⟨?_,fun g e=> ?_⟩,HAR.out.kept kk (hg 4 (by omega) (by omega) (by omega))⟩⟩,kk.mono (fun b _ h=>HPF.out b (by rcases h with h|h;subst h;have:=HPP.out;omega;subst h;have:=HPR.out;omega))⟩
    ·dsimp only at hb
     by_cases h:b < w.heap.size
     ·rw[if_pos h]at hb
      exact .inl (HPF.out b hb)
     ·exact .inr (by omega)
    ·exact(HKS.out.below.kept kk (fun b hb=>(hg 6 (by omega) (by omega) (by omega) b hb.2 hb.1).1)).mono' (fun b hb=>(hg 6 (by omega) (by omega) (by omega) b hb.2 hb.1).2)
    ·cases i with
     |zero=>
      obtain rfl:p=q:=by have:=HP.out.symm.trans hq;simpa using this
      have e2:{x with tasks:=L++aW s.ks t}=y:=by simpa[hxm]using hy
      subst e2;refine⟨_,HPW5.out.kept k56 (by omega),(if_pos hpl).trans HPP.out,?_,fun g e=> ?_⟩
      ·rw[List.flatMap_append,f_,HCL.out]
       exact iX (aP HROW5.out k56 (fun g e h=>by
        rcases h with h|h
        ·subst h;exact bF HROW5.out HBR5.out (by decide) e
        ·have:=(HROW5.out.lt g e).2;omega) (a_ _)) (Nat.zero_le _)
      ·have h1:=HROW5.out.lt g e
       exact(if_neg (by omega)).trans (if_pos h1.2)
     |succ i=>
      have hy':s.W[i+1]?= some y:=by simpa using hy
      exact(HWS.out (i+1) q y hq hy').kept kk (hg _ (by omega) (by omega) (by omega))
    ·rw[HN8.out]
     exact iX (aP hrow8 k86 (fun g e h=>by subst h;exact bF hrow8 hB8 (by decide) e) (a_ _)) (Nat.zero_le _)
    ·have h1:=hrow8.lt g e
     exact(if_neg (by omega)).trans (if_neg (by omega))
end Go.Proofs.YtfanaanofjhlkaaGreatDoor
