import Derived.Test.YtfanaanofjhlkaaGreatDoorXTick
import Derived.Test.YtfanaanofjhlkaaGreatDoorXThing
import Derived.Test.YtfanaanofjhlkaaGreatDoorXPass
import Derived.Test.YtfanaanofjhlkaaGreatDoorRefDeliver
import Derived.Test.YtfanaanofjhlkaaGreatDoorFine4
import Derived.Test.YtfanaanofjhlkaaGreatDoorAsksV
import Derived.Test.YtfanaanofjhlkaaGreatDoorRefWork3
import Derived.Test.YtfanaanofjhlkaaGreatDoorXAnswer
import Derived.Test.YtfanaanofjhlkaaGreatDoorXCheck2
import Derived.Test.YtfanaanofjhlkaaGreatDoorRefPass
import Derived.Test.YtfanaanofjhlkaaGreatDoorBegun
set_option maxHeartbeats 16000000
set_option maxRecDepth 100000
namespace Go.Proofs.YtfanaanofjhlkaaGreatDoor
open Go Go.RowKit Tryz
theorem aEq(F:Nat->Prop)(B N:Nat)(s:aE)(i:Int)(w:World)(hx:bK F w B s)(hf:kD s)(hs:cX s)(hN:dS N s)(hN':N<=90000000) :
  Calls prog 40 #[.pointer (some ⟨B,0,none⟩),.int .i64 i] w (eK F w B (fV s i)):=by
 refine xK (some ⟨B,0,none⟩) i w _ (fun W1 W2 W3 h1 h2 h3=> ?_);have g1:=eN w (some ⟨B,0,none⟩) i;have g2:=eN W1 (some ⟨B,0,none⟩) i;have a1:=jE w B i;have a2:=jE W1 B i;rw[h1]at g1 a1;rw[h2]at g2 a2;have g3:Below W2.heap.size W2 W3:=by rw[<-h3];exact(e_ _ _).alloc (a_ _) _
 have bL:aD W3 W2.heap.size 94 (([pT 110 w]++ [dU 151 W1]).map eH).toArray:=by rw[<-h3];exact aD.new W2 _ _
 have z1:=g1.size;have z2:=g2.size;have k2:Below W1.heap.size W1 W3:=g2.trans (g3.mono z2);have hb:Below w.heap.size w W3:=g1.trans (k2.mono z1);have c1:=a1.below k2;have c2:=a2.below g3;clear a1 a2 h1 h2 h3 g1 g2 k2;have hlow:=hx.low;refine(nO F B W2.heap.size s W3 (hx.later hb) [pT 110 w] [if i < 0\/s.workers<=i then 7 else 0] (dU 151 W1) (fV s i) w hb hx (by simp) (by simp) 94 bL ?over ?enter ?test ?bad ?last).mono (fun e w' h=>⟨⟨_,h.1⟩,h⟩)
 case over=>
  intro ho;simp[fV,qG ho,ho]
 case enter=>
  intro f hf' args W;simp at hf';rcases hf' with rfl|rfl
  ·exact enters_of func110 (by kernel_rfl) rfl args W
  ·exact enters_of func151 (by kernel_rfl) rfl args W
 case test=>
  intro hd ho j f e hj he hp W hW
  match j,hj,he with
  |0,hj,he=>cases hj;cases he;exact oD F B _ _ s i W ((hx.later hb).later hW) hf (c1.below hW)
  |(n+1),hj,he=>simp at hj
 case bad=>
  intro hd ho j e he hne hp;have wi:=mY hd ho i
  match j,he with
  |0,he=>cases he;simp only[fV,wi,if_pos hne]
  |(n+1),he=>simp at he
 case last=>
  intro hd ho hp W hW;have p0:=hp 0 _ (by simp) rfl;have wi:=mY hd ho i;rw[p0]at wi;have hv:=jA (by omega) p0;have hlen:=hs.len;obtain⟨k,rfl⟩:=Int.eq_ofNat_of_zero_le (show 0<=i by omega);have hkl:k < s.W.length:=by omega
  obtain⟨ls,l,hls,-⟩:=hs.link hkl hkl;have hmem:=d_ hls;have hres:fV s (k:Int)=(ls.foldl dO s,0):=by simp[fV,wi,hls]
  rw[hres];have hbW:Below w.heap.size w W:=hb.trans (hW.mono hb.size);exact aAq _ B _ _ k s ls W (hlow.later hbW) hls (fun l hl=>hN.known ls hmem l hl) (fun l hl=>by have:=hN.all ls hmem l hl;omega) hs.way (c2.below hW) ⟨fun h=>by omega,fun h=>by omega⟩
theorem aEu{s:aE}{k i j:Nat}{m:aI}(he:eP s (k:Int)=0)(hm:s.way[k]?= some m)(hk:m.kind=0)(hs:m.src=i)(hd:m.dst=j):eB s (k:Int)=(aZ {s with way:=s.way.take k++s.way.drop (k+1)} j i (jK (aF {s with way:=s.way.take k++s.way.drop (k+1)} j i) m.no),0)\/eB s (k:Int)=({s with way:=s.way.take k++s.way.drop (k+1)},0)/\jK (aF {s with way:=s.way.take k++s.way.drop (k+1)} j i) m.no=aF {s with way:=s.way.take k++s.way.drop (k+1)} j i:=by
 unfold eB jK;rw[if_neg (by rw[he];simp)];dsimp only;rw[Int.toNat_natCast,hm,Option.getD_some,if_pos hk,hs,hd,Int.toNat_natCast,Int.toNat_natCast];by_cases h:(aF {s with way:=s.way.take k++s.way.drop (k+1)} j i).known < m.no
 ·rw[if_pos h,if_pos h];exact .inl rfl
 ·rw[if_neg h,if_neg h];exact .inr ⟨rfl,rfl⟩
theorem aCf{s:aE}{k i j:Nat}{m:aI}(he:eP s (k:Int)=0)(hm:s.way[k]?= some m)(hk:m.kind≠0)(hs:m.src=i)(hd:m.dst=j):eB s (k:Int)=(cB (jO {s with way:=s.way.take k++s.way.drop (k+1)} i j m) {aH with src:=(j:Int),dst:=(i:Int),kind:=0,no:=(aF (jO {s with way:=s.way.take k++s.way.drop (k+1)} i j m) i j).came},0):=by
 unfold eB jO;rw[if_neg (by rw[he];simp)];dsimp only;rw[Int.toNat_natCast,hm,Option.getD_some,if_neg hk,hs,hd,Int.toNat_natCast,Int.toNat_natCast]
theorem aEm{s:aE}{i j:Nat}(hl:s.links.length=s.W.length)(hr:∀ls∈s.links,ls.length=s.W.length)(hi:i < s.W.length)(hj:j < s.W.length):aZ s i j (aF s i j)=s:=by
 unfold aZ aF;have hl':i < s.links.length:=by rw[hl];exact hi
 have hr':=hr _ (List.getElem_mem hl');rw[b_ hl'];have hj':j < s.links[i].length:=by omega
 simp[b_ hj']
theorem aCr(F:Nat->Prop)(B Br Bw k:Nat)(m:aI)(N:Nat)(s:aE)(w:World)(hx:bK F w B s)(hf:aN N s)(hN:N+5<=90000000)(hc:bJ s)(he:eP s (k:Int)=0)(hm:s.way[k]?= some m)(hh:fF w Br Bw B k)(hF:¬F Br/\¬F Bw) :
  Calls prog 156 #[.pointer (some ⟨Br,0,none⟩),.pointer (some ⟨Bw,0,none⟩)] w (eK F w B (eB s (k:Int))):=by
 obtain⟨part,hpF,kv,wv,yv,M,xs,h⟩:=hx;have hw:=hf.ways m (d_ hm);have h60:=hf.w60;obtain⟨i,hi⟩:∃i:Nat,m.src=(i:Int):=⟨m.src.toNat,by have:=hw.src;omega⟩;obtain⟨j,hj⟩:∃j:Nat,m.dst=(j:Int):=⟨m.dst.toNat,by have:=hw.dst;omega⟩;have hil:i < s.W.length:=by have:=hw.src;have:=hf.len;omega
 have hjl:j < s.W.length:=by have:=hw.dst;have:=hf.len;omega
 have hne:i≠j:=fun e=>hc.way m (d_ hm) (by rw[hi,hj,e])
 have hA:pO N {s with way:=s.way.take k++s.way.drop (k+1)} i j m:=⟨hf.unway k,hN,hc.unway k,hi,hj,hil,hjl,hne⟩;have r0:=hh.1.cell (o:=0) rfl;have i0:=hh.2.cell (o:=0) rfl;have hpr:part Br=0:=by
  rcases Nat.eq_zero_or_pos (part Br)with h|h
  ·exact h
  ·exact absurd (hpF Br (by omega)) hF.1
 have HTK:Hid (∀U,Below w.heap.size w U->Calls prog 158 #[.pointer (some ⟨B,5,none⟩),.int .i64 (k:Int)] U fun e w'=>∃v,e= .returned v/\(v= .agg (aG m)/\∃part' yv',aQ part' w' B {s with way:=s.way.take k++s.way.drop (k+1)} kv wv yv' M xs/\bD part part' w w'/\w'.cell? ⟨Br,0,none⟩=some (.pointer (some ⟨B,0,none⟩)))):=fun U hU=>by
  obtain⟨h2,hm2⟩:=h.later hU;refine(zI k m h2 hm (by omega)).mono ?_;rintro e w' ⟨v,rfl,rfl,part',yv',h3,hm3⟩;have hmv:=hm2.trans hm3;exact⟨_,rfl,rfl,part',yv',h3,hmv,(hmv.kept.cell (p:=⟨Br,0,none⟩) hh.1.lt (fun h=>h hpr)).trans r0⟩
 have HAR:Hid (∀(U:World) (part1:Nat->Nat) (yv1:Value),aQ part1 U B {s with way:=s.way.take k++s.way.drop (k+1)} kv wv yv1 M xs->bD part part1 w U->Calls prog 157 #[.pointer (some ⟨B,0,none⟩),.agg (aG m)] U fun e w'=>∃v,e= .returned v/\(v= .tuple #[]/\eK F w B (eB s (k:Int)) (.returned (.int .i64 0)) w')):=fun U part1 yv1 h1 hm1=>by
  have fin:∀(r:aE) (w':World) (part':Nat->Nat) (yv':Value) (xs':List XW),eB s (k:Int)=(r,0)->aQ part' w' B r kv wv yv' M xs'->cI part part' w w'->eK F w B (eB s (k:Int)) (.returned (.int .i64 0)) w':=fun r w' part' yv' xs' e h2 hm2=>by
   obtain⟨h5,h6⟩:=hm2.okX h2 hpF;rw[e];exact⟨rfl,h5,h6⟩
  by_cases hk:m.kind=0
  ·refine(aFr m i j h1 hA hk).mono ?_
   rintro e w' ⟨v,rfl,rfl,part',yv',xs',h2,hm2⟩;refine⟨_,rfl,rfl,?_⟩;rcases aEu he hm hk hi hj with e|⟨e,e2⟩
   ·exact fin _ w' part' yv' xs' e h2 (hm1.base.trans hm2)
   ·rw[e2,aEm hA.fine.llen hA.fine.lrow hA.hj hA.hi]at h2
    exact fin _ w' part' yv' xs' e h2 (hm1.base.trans hm2)
  ·obtain⟨n,hn,hn2⟩:=hw.sent hk
   rw[hi,hj,Int.toNat_natCast,Int.toNat_natCast]at hn2;refine(aCt m i j h1 hA hk ⟨by omega,by
    have e:(m.no - 1).toNat=n:=by omega
    rw[e];exact hn2⟩).mono ?_
   rintro e w' ⟨v,rfl,rfl,part',yv',xs',h2,hm2⟩;exact⟨_,rfl,rfl,fin _ w' part' yv' xs' (aCf he hm hk hi hj) h2 (hm1.base.trans hm2)⟩
 clear h hh hA;go_enter func156,ntmps156
 go_upto_region 1 with fail
 go_region_law (first
  |(refine dY (by rfl) 158 _ _ _ (by rfl) (.pointer (some ⟨B,5,none⟩)) (.int .i64 (k:Int)) (by rfl) (by rfl) (enters_of func158 (by kernel_rfl) rfl) (HTK.out _ (by first|exact e_ _ _|exact(e_ _ _).drew)) ?_;rintro v8 w8 ⟨rfl,part8,yv8,h8,hm8,r8⟩;have H8:=aC h8;have HM8:=aC hm8;clear h8 hm8)
  |(refine dY (by rfl) 157 _ _ _ (by rfl) (.pointer (some ⟨B,0,none⟩)) (.agg (aG m)) (by rfl) (by rfl) (enters_of func157 (by kernel_rfl) rfl) (HAR.out _ part8 yv8 H8.out HM8.out) ?_;rintro v9 w9 ⟨rfl,hres⟩;have HRES:=aC hres;clear hres))
 all_goals
  go_wp2_with fail
  go_ret;exact HRES.out
theorem aBg(rp:Option Addr)(i:Int)(w:World):Calls prog 91 #[.pointer rp,.int .i64 i] w fun e w'=>e= .returned (.func (.func 156) #[] #[.pointer (some ⟨w.heap.size,0,none⟩),.pointer (some ⟨w.heap.size+1,0,none⟩)])/\w'=dM w rp i:=by
 go_enter func91,ntmps91
 go_wp2_with fail
 go_ret;exact⟨rfl,rfl⟩
theorem vJ(rp:Option Addr)(i:Int)(w:World)(R:Ending->World->Prop)
  (h:∀W1 W2 W3,dM w rp i=W1->dM W1 rp i=W2->W2.alloc (Obj.cells (([dU 154 w]++ [dU 156 W1]).map eH).toArray 94)=W3->Calls prog 42 #[.pointer rp,.slice (some ⟨W2.heap.size,0,none⟩) 2 2] W3 fun e w'=>(∃r,e= .returned (.int .i64 r))/\R e w') :
  Calls prog 41 #[.pointer rp,.int .i64 i] w R:=by
 obtain⟨W1,h1⟩:∃W1,dM w rp i=W1:=⟨_,rfl⟩;obtain⟨W2,h2⟩:∃W2,dM W1 rp i=W2:=⟨_,rfl⟩;obtain⟨W3,h3⟩:∃W3,W2.alloc (Obj.cells (([dU 154 w]++ [dU 156 W1]).map eH).toArray 94)=W3:=⟨_,rfl⟩;have HC:=aC (h W1 W2 W3 h1 h2 h3);have H1:=aC h1;have H2:=aC h2;have H3:=aC h3;clear h h1 h2 h3;go_enter func41,ntmps41
 go_wp2_with (first
  |(go_at_call 90;refine(sJ rp i w).mono ?_;rintro e a1 ⟨rfl,hq⟩;obtain rfl:W1=a1:=H1.out.symm.trans hq.symm;clear hq)
  |(go_at_call 91;refine(aBg rp i W1).mono ?_;rintro e a1 ⟨rfl,hq⟩;obtain rfl:W2=a1:=H2.out.symm.trans hq.symm;clear hq)
  |(go_at_call 42;refine Calls.at_world H3.out ?_;refine HC.out.mono ?_;rintro e a7 ⟨⟨r,rfl⟩,hr⟩))
 exact hr
theorem aDo(i:Int)(w:World):Calls prog 41 #[.pointer none,.int .i64 i] w fun e w'=>e= .returned (.int .i64 1)/\Below w.heap.size w w':=by
 refine vJ none i w _ (fun W1 W2 W3 h1 h2 h3=> ?_);refine(mZ W2.heap.size 2 W3).mono ?_;rintro e w' ⟨rfl,hb⟩;have g1:=eN w none i;have g2:=eN W1 none i;rw[h1]at g1;rw[h2]at g2;have g3:Below W2.heap.size W2 W3:=by rw[<-h3];exact(e_ _ _).alloc (a_ _) _
 have z1:=g1.size;have z2:=g2.size;have z3:=g3.size;exact⟨⟨1,rfl⟩,rfl,((g1.trans (g2.mono (by omega))).trans (g3.mono (by omega))).trans (hb.mono (by omega))⟩
theorem aAw(F:Nat->Prop)(B N:Nat)(s:aE)(i:Int)(w:World)(hx:bK F w B s)(hf:aN N s)(hN:N+5<=90000000)(hc:bJ s) :
  Calls prog 41 #[.pointer (some ⟨B,0,none⟩),.int .i64 i] w (eK F w B (eB s i)):=by
 refine vJ (some ⟨B,0,none⟩) i w _ (fun W1 W2 W3 h1 h2 h3=> ?_);have g1:=eN w (some ⟨B,0,none⟩) i;have g2:=eN W1 (some ⟨B,0,none⟩) i;have a1:=jE w B i;have a2:=jE W1 B i;rw[h1]at g1 a1;rw[h2]at g2 a2;have g3:Below W2.heap.size W2 W3:=by rw[<-h3];exact(e_ _ _).alloc (a_ _) _
 have bL:aD W3 W2.heap.size 94 (([dU 154 w]++ [dU 156 W1]).map eH).toArray:=by rw[<-h3];exact aD.new W2 _ _
 have z1:=g1.size;have z2:=g2.size;have k2:Below W1.heap.size W1 W3:=g2.trans (g3.mono z2);have hb:Below w.heap.size w W3:=g1.trans (k2.mono z1);have c1:=a1.below k2;have c2:=a2.below g3;clear a1 a2 h1 h2 h3 g1 g2 k2;have hlow:=hx.low;refine(nO F B W2.heap.size s W3 (hx.later hb) [dU 154 w] [if i < 0\/(s.way.length:Int)<=i then 10 else 0] (dU 156 W1) (eB s i) w hb hx (by simp) (by simp) 94 bL ?over ?enter ?test ?bad ?last).mono (fun e w' h=>⟨⟨_,h.1⟩,h⟩)
 case over=>
  intro ho;simp[eB,sX ho,ho]
 case enter=>
  intro f hf' args W;simp at hf';rcases hf' with rfl|rfl
  ·exact enters_of func154 (by kernel_rfl) rfl args W
  ·exact enters_of func156 (by kernel_rfl) rfl args W
 case test=>
  intro hd ho j f e hj he hp W hW
  match j,hj,he with
  |0,hj,he=>cases hj;cases he;exact sI F B _ _ s i W ((hx.later hb).later hW) (c1.below hW)
  |(n+1),hj,he=>simp at hj
 case bad=>
  intro hd ho j e he hne hp;have wi:=oE hd ho i
  match j,he with
  |0,he=>cases he;simp only[eB,wi,if_pos hne]
  |(n+1),he=>simp at he
 case last=>
  intro hd ho hp W hW;have p0:=hp 0 _ (by simp) rfl;have wi:=oE hd ho i;rw[p0]at wi;obtain⟨q0,q1⟩:=oG wi;obtain⟨k,rfl⟩:=Int.eq_ofNat_of_zero_le q0;obtain⟨m,hm⟩:∃m,s.way[k]?= some m:=⟨_,b_ (by omega)⟩;have hbW:Below w.heap.size w W:=hb.trans (hW.mono hb.size);have h9:=aCr (fun b=>F b/\b < w.heap.size) B _ _ k m N s W (hlow.later hbW) hf hN hc wi hm (c2.below hW) ⟨fun h=>by omega,fun h=>by omega⟩;exact h9
theorem aAj(F:Nat->Prop)(B N:Nat)(s:aE)(i:Int)(w:World)(hr:dW F w B s)(h:aN N s)(hN:N+5<=90000000) :
  Calls prog 78 #[.pointer (some ⟨B,0,none⟩),.int .i64 i] w (dE F w B (eB s i)):=by
 by_cases h1:eP s i=0
 ·obtain⟨h2,h3⟩:=oG h1
  obtain⟨k,rfl⟩:∃k:Nat,i=(k:Int):=⟨i.toNat,by omega⟩;obtain⟨m,hm⟩:∃m,s.way[k]?= some m:=⟨_,b_ (by omega)⟩;have hw:=h.ways m (d_ hm);by_cases hk:m.kind=0
  ·exact aBe F B s k w hr h.shaped h1 m hm hk hw.src hw.dst
  ·exact aAv F B N s k w hr h.shaped h.small (by omega) h1 m hm hk hw.src hw.dst (h.comeOK hN hm hk)
 ·exact aBj F B s i w hr h1
def nG(k:Int):Prop:=k=2\/k=4\/k=6\/k=7\/k=8\/k=9\/k=10\/k=11
theorem aCx(k:Int)(hk:nG k)(F:Nat->Prop)(xp wp:Option Addr)(m:Nat)(hm:m<=170000)(r W V i b c wk rm md pk pa:Int)(ka:Option Addr)(kn kc:Nat)(w:World)(ht:fK F w xp wp m) :
  Calls prog 31 #[.agg #[.pointer xp,.pointer wp],.agg (cW k r W V i b c wk rm md (.slice ka kn kc) pk pa)] w fun e w'=>e= .returned (.bool true)/\fK (fun g=>F g\/w.heap.size<=g) w' xp wp (m+1)/\aB F w w':=by
 obtain⟨Z,hZ,hbZ,bT,bO,sZ⟩:=rW w xp wp (cW k r W V i b c wk rm md (.slice ka kn kc) pk pa);have HBT:=aC bT;have HBO:=aC bO;have t0:=bT.cell (o:=0) rfl;have o0:=bO.cell (o:=0) rfl;have o2:=bO.cell (o:=2) rfl;have o3:=bO.cell (o:=3) rfl;have o4:=bO.cell (o:=4) rfl;have HT:=aC ht;have HBZ:=aC hbZ;clear bT bO ht hbZ;rcases hk with rfl|rfl|rfl|rfl|rfl|rfl|rfl|rfl
 ·obtain⟨er,X,h1,h2⟩:=nH (f1:=22) (f2:=73) (a:=fun p=>#[.pointer p,.int .i64 W]) (fun s=>cJ s W) HT.out HBZ.out (aHu W Z) (fun w1=>aFq W w1) (fun F B s h a=>wB _ B (6*m) s W Z h a.fits a.shaped a.small (by omega) a.known (by have:=a.vals;omega)) (fun F B s w1 h a=>aFg _ B (6*m) s W w1 h a.fits a.shaped a.small (by omega) (by have:=a.vals;omega)) (fun s a=>a.work W)
  have H1:Hid (Calls prog 22 #[.pointer xp,.int .i64 W] Z (fun e w1=>e= .returned (.int .i64 er)/\X w1)):=h1;have H2:Hid (∀w1,X w1->aB (fun g=>F g/\g < w.heap.size) Z w1/\Calls prog 73 #[.pointer wp,.int .i64 W] w1 (fun e w2=>e= .returned (.int .i64 er)/\fK (fun g=>F g\/w.heap.size<=g) w2 xp wp (m+1)/\aB F w w2)):=h2;clear h1 h2;go_enter func31,ntmps31
  go_wp2_with (first
   |(go_at_call 22;refine H1.out.mono ?_;rintro e w1 ⟨rfl,hX⟩
     have h3:=H2.out w1 hX;have t1:=(HBT.out.kept h3.1 (by omega)).cell (o:=1) rfl;have o2':=(HBO.out.kept h3.1 (by omega)).cell (o:=2) rfl;have H3:=aC h3.2;clear h3 hX)
   |(go_at_call 73;refine H3.out.mono ?_;rintro e w2 ⟨rfl,hg⟩
     have HG:=aC hg;clear hg))
  go_ret;exact⟨by simp,HG.out⟩
 ·obtain⟨er,X,h1,h2⟩:=nH (f1:=57) (f2:=74) (a:=fun p=>#[.pointer p,.int .i64 W,.int .i64 V]) (fun s=>eE s W V) HT.out HBZ.out (aGj W V Z) (fun w1=>aDa W V w1) (fun F B s h a=>aDk _ B (6*m) s W V Z h a.fits a.shaped a.small (by omega) a.known) (fun F B s w1 h a=>aBh _ B (6*m) s W V w1 h a.shaped a.small (by omega)) (fun s a=>a.steal W V)
  have H1:Hid (Calls prog 57 #[.pointer xp,.int .i64 W,.int .i64 V] Z (fun e w1=>e= .returned (.int .i64 er)/\X w1)):=h1;have H2:Hid (∀w1,X w1->aB (fun g=>F g/\g < w.heap.size) Z w1/\Calls prog 74 #[.pointer wp,.int .i64 W,.int .i64 V] w1 (fun e w2=>e= .returned (.int .i64 er)/\fK (fun g=>F g\/w.heap.size<=g) w2 xp wp (m+1)/\aB F w w2)):=h2;clear h1 h2;go_enter func31,ntmps31
  go_wp2_with (first
   |(go_at_call 57;refine H1.out.mono ?_;rintro e w1 ⟨rfl,hX⟩
     have h3:=H2.out w1 hX;have t1:=(HBT.out.kept h3.1 (by omega)).cell (o:=1) rfl;have o2':=(HBO.out.kept h3.1 (by omega)).cell (o:=2) rfl;have o3':=(HBO.out.kept h3.1 (by omega)).cell (o:=3) rfl;have H3:=aC h3.2;clear h3 hX)
   |(go_at_call 74;refine H3.out.mono ?_;rintro e w2 ⟨rfl,hg⟩
     have HG:=aC hg;clear hg))
  go_ret;exact⟨by simp,HG.out⟩
 ·obtain⟨er,X,h1,h2⟩:=nH (f1:=58) (f2:=75) (a:=fun p=>#[.pointer p,.int .i64 i]) (fun s=>fX s i) HT.out HBZ.out (aIe i Z) (fun w1=>aFl i w1) (fun F B s h a=>aFi _ B s i Z h a.shaped) (fun F B s w1 h a=>aCh _ B s i w1 h a.shaped) (fun s a=>a.drop i)
  have H1:Hid (Calls prog 58 #[.pointer xp,.int .i64 i] Z (fun e w1=>e= .returned (.int .i64 er)/\X w1)):=h1;have H2:Hid (∀w1,X w1->aB (fun g=>F g/\g < w.heap.size) Z w1/\Calls prog 75 #[.pointer wp,.int .i64 i] w1 (fun e w2=>e= .returned (.int .i64 er)/\fK (fun g=>F g\/w.heap.size<=g) w2 xp wp (m+1)/\aB F w w2)):=h2;clear h1 h2;go_enter func31,ntmps31
  go_wp2_with (first
   |(go_at_call 58;refine H1.out.mono ?_;rintro e w1 ⟨rfl,hX⟩
     have h3:=H2.out w1 hX;have t1:=(HBT.out.kept h3.1 (by omega)).cell (o:=1) rfl;have o4':=(HBO.out.kept h3.1 (by omega)).cell (o:=4) rfl;have H3:=aC h3.2;clear h3 hX)
   |(go_at_call 75;refine H3.out.mono ?_;rintro e w2 ⟨rfl,hg⟩
     have HG:=aC hg;clear hg))
  go_ret;exact⟨by simp,HG.out⟩
 ·obtain⟨er,X,h1,h2⟩:=nH (f1:=59) (f2:=76) (a:=fun p=>#[.pointer p,.int .i64 i]) (fun s=>fS s i) HT.out HBZ.out (aGe i Z) (fun w1=>aEb i w1) (fun F B s h a=>aDj _ B s i Z h a.shaped) (fun F B s w1 h a=>aBc _ B s i w1 h a.shaped) (fun s a=>a.twice i)
  have H1:Hid (Calls prog 59 #[.pointer xp,.int .i64 i] Z (fun e w1=>e= .returned (.int .i64 er)/\X w1)):=h1;have H2:Hid (∀w1,X w1->aB (fun g=>F g/\g < w.heap.size) Z w1/\Calls prog 76 #[.pointer wp,.int .i64 i] w1 (fun e w2=>e= .returned (.int .i64 er)/\fK (fun g=>F g\/w.heap.size<=g) w2 xp wp (m+1)/\aB F w w2)):=h2;clear h1 h2;go_enter func31,ntmps31
  go_wp2_with (first
   |(go_at_call 59;refine H1.out.mono ?_;rintro e w1 ⟨rfl,hX⟩
     have h3:=H2.out w1 hX;have t1:=(HBT.out.kept h3.1 (by omega)).cell (o:=1) rfl;have o4':=(HBO.out.kept h3.1 (by omega)).cell (o:=4) rfl;have H3:=aC h3.2;clear h3 hX)
   |(go_at_call 76;refine H3.out.mono ?_;rintro e w2 ⟨rfl,hg⟩
     have HG:=aC hg;clear hg))
  go_ret;exact⟨by simp,HG.out⟩
 ·obtain⟨er,X,h1,h2⟩:=nH (f1:=40) (f2:=77) (a:=fun p=>#[.pointer p,.int .i64 W]) (fun s=>fV s W) HT.out HBZ.out (aHo W Z) (fun w1=>aFb W w1) (fun F B s h a=>aEq _ B (6*m) s W Z h a.fits a.shaped a.small (by omega)) (fun F B s w1 h a=>aCd _ B (6*m) s W w1 h a.shaped a.small) (fun s a=>a.tick W)
  have H1:Hid (Calls prog 40 #[.pointer xp,.int .i64 W] Z (fun e w1=>e= .returned (.int .i64 er)/\X w1)):=h1;have H2:Hid (∀w1,X w1->aB (fun g=>F g/\g < w.heap.size) Z w1/\Calls prog 77 #[.pointer wp,.int .i64 W] w1 (fun e w2=>e= .returned (.int .i64 er)/\fK (fun g=>F g\/w.heap.size<=g) w2 xp wp (m+1)/\aB F w w2)):=h2;clear h1 h2;go_enter func31,ntmps31
  go_wp2_with (first
   |(go_at_call 40;refine H1.out.mono ?_;rintro e w1 ⟨rfl,hX⟩
     have h3:=H2.out w1 hX;have t1:=(HBT.out.kept h3.1 (by omega)).cell (o:=1) rfl;have o2':=(HBO.out.kept h3.1 (by omega)).cell (o:=2) rfl;have H3:=aC h3.2;clear h3 hX)
   |(go_at_call 77;refine H3.out.mono ?_;rintro e w2 ⟨rfl,hg⟩
     have HG:=aC hg;clear hg))
  go_ret;exact⟨by simp,HG.out⟩
 ·obtain⟨er,X,h1,h2⟩:=nH (f1:=41) (f2:=78) (a:=fun p=>#[.pointer p,.int .i64 i]) (fun s=>eB s i) HT.out HBZ.out (aDo i Z) (fun w1=>aBo i w1) (fun F B s h a=>aAw _ B (6*m) s i Z h a.steady.fine (by omega) a.calm) (fun F B s w1 h a=>aAj _ B (6*m) s i w1 h a.steady.fine (by omega)) (fun s a=>a.deliver hm i)
  have H1:Hid (Calls prog 41 #[.pointer xp,.int .i64 i] Z (fun e w1=>e= .returned (.int .i64 er)/\X w1)):=h1;have H2:Hid (∀w1,X w1->aB (fun g=>F g/\g < w.heap.size) Z w1/\Calls prog 78 #[.pointer wp,.int .i64 i] w1 (fun e w2=>e= .returned (.int .i64 er)/\fK (fun g=>F g\/w.heap.size<=g) w2 xp wp (m+1)/\aB F w w2)):=h2;clear h1 h2;go_enter func31,ntmps31
  go_wp2_with (first
   |(go_at_call 41;refine H1.out.mono ?_;rintro e w1 ⟨rfl,hX⟩
     have h3:=H2.out w1 hX;have t1:=(HBT.out.kept h3.1 (by omega)).cell (o:=1) rfl;have o4':=(HBO.out.kept h3.1 (by omega)).cell (o:=4) rfl;have H3:=aC h3.2;clear h3 hX)
   |(go_at_call 78;refine H3.out.mono ?_;rintro e w2 ⟨rfl,hg⟩
     have HG:=aC hg;clear hg))
  go_ret;exact⟨by simp,HG.out⟩
 ·obtain⟨er,X,h1,h2⟩:=nH (f1:=39) (f2:=79) (a:=fun p=>#[.pointer p,.int .i64 W]) (fun s=>eL s W) HT.out HBZ.out (aHs W Z) (fun w1=>aEk W w1) (fun F B s h a=>aEr _ B (6*m) s W Z h a.fits a.shaped a.small (by omega) a.known (a.toks (by omega))) (fun F B s w1 h a=>aCa _ B (6*m) s W w1 h a.shaped a.small (by omega) (a.toks (by omega))) (fun s a=>a.pass hm W)
  have H1:Hid (Calls prog 39 #[.pointer xp,.int .i64 W] Z (fun e w1=>e= .returned (.int .i64 er)/\X w1)):=h1;have H2:Hid (∀w1,X w1->aB (fun g=>F g/\g < w.heap.size) Z w1/\Calls prog 79 #[.pointer wp,.int .i64 W] w1 (fun e w2=>e= .returned (.int .i64 er)/\fK (fun g=>F g\/w.heap.size<=g) w2 xp wp (m+1)/\aB F w w2)):=h2;clear h1 h2;go_enter func31,ntmps31
  go_wp2_with (first
   |(go_at_call 39;refine H1.out.mono ?_;rintro e w1 ⟨rfl,hX⟩
     have h3:=H2.out w1 hX;have t1:=(HBT.out.kept h3.1 (by omega)).cell (o:=1) rfl;have o2':=(HBO.out.kept h3.1 (by omega)).cell (o:=2) rfl;have H3:=aC h3.2;clear h3 hX)
   |(go_at_call 79;refine H3.out.mono ?_;rintro e w2 ⟨rfl,hg⟩
     have HG:=aC hg;clear hg))
  go_ret;exact⟨by simp,HG.out⟩
 ·obtain⟨er,X,h1,h2⟩:=nH (f1:=19) (f2:=80) (a:=fun p=>#[.pointer p]) (fun s=>fJ s) HT.out HBZ.out (aHg Z) (fun w1=>aEf w1) (fun F B s h a=>aDu _ B (6*m) s Z h ⟨a.shaped,a.small,by omega,a.known,a.toks (by omega),by have:=a.steady.fine.alen;omega,a.many⟩) (fun F B s w1 h a=>aAy _ B (6*m) s w1 h a.shaped a.small (by omega) (a.toks (by omega)) (by have:=a.steady.fine.alen;omega)) (fun s a=>a.check hm)
  have H1:Hid (Calls prog 19 #[.pointer xp] Z (fun e w1=>e= .returned (.int .i64 er)/\X w1)):=h1;have H2:Hid (∀w1,X w1->aB (fun g=>F g/\g < w.heap.size) Z w1/\Calls prog 80 #[.pointer wp] w1 (fun e w2=>e= .returned (.int .i64 er)/\fK (fun g=>F g\/w.heap.size<=g) w2 xp wp (m+1)/\aB F w w2)):=h2;clear h1 h2;go_enter func31,ntmps31
  go_wp2_with (first
   |(go_at_call 19;refine H1.out.mono ?_;rintro e w1 ⟨rfl,hX⟩
     have h3:=H2.out w1 hX;have t1:=(HBT.out.kept h3.1 (by omega)).cell (o:=1) rfl;have H3:=aC h3.2;clear h3 hX)
   |(go_at_call 80;refine H3.out.mono ?_;rintro e w2 ⟨rfl,hg⟩
     have HG:=aC hg;clear hg))
  go_ret;exact⟨by simp,HG.out⟩
structure kN where
 k:Int
 r:Int
 W:Int
 V:Int
 i:Int
 b:Int
 c:Int
 wk:Int
 rm:Int
 md:Int
 ks:List aS
 pk:Int
 pa:Int
def aNh(W:World)(g o:Nat)(x:kN):Prop:=
 ∃ka kc,(∀t u,(cW x.k x.r x.W x.V x.i x.b x.c x.wk x.rm x.md (.slice ka x.ks.length kc) x.pk x.pa)[t]?= some u->W.cell? ⟨g,o+t,none⟩=some u)/\bH (fun _=>True) W (.slice ka x.ks.length kc) x.ks
def uR(x:kN):Prop:=jR x.r/\jR x.W/\jR x.V/\jR x.i/\jR x.b/\jR x.c/\x.ks.length*40<=140737488351232/\∀k∈x.ks,k.kids.length*16<=140737488351232
def lZ(W:World)(a:Option Addr)(l:List kN):Prop:=∀j x,l[j]?= some x->uR x/\∃g o,a=some ⟨g,o,none⟩/\g < W.heap.size/\aNh W g (o+j*13) x
theorem bH.later{W W':World}{v:Value}{ks:List aS}(h:bH (fun _=>True) W v ks)(hb:Below W.heap.size W W'):bH (fun _=>True) W' v ks:=
 (h.below.kept (aB.of_below hb (X:=fun b=>W.heap.size<=b) (fun _ _ h=>h)) (fun b h1 h2=>by omega)).mono (fun _ _=>trivial)
theorem lZ.later{W W':World}{a:Option Addr}{l:List kN}(h:lZ W a l)(hb:Below W.heap.size W W'):lZ W' a l:=by
 intro j x hj;obtain⟨hf,g,o,ha,hg,ka,kc,hc,hk⟩:=h j x hj;exact⟨hf,g,o,ha,Nat.lt_of_lt_of_le hg hb.size,ka,kc,fun t u ht=>(hb.cell (p:=⟨g,_,none⟩) hg).trans (hc t u ht),hk.later hb⟩
def jG(p:Option Addr×Option Addr):List Value:=[.pointer p.1,.pointer p.2]
theorem aLb:(prog.info? 76).map (fun i=>(i.zero,i.size,i.bytes))=some (some (.agg #[.pointer none,.pointer none]),2,16):=by kernel_rfl
structure fE(base:Nat)(own:Nat->Nat)(W:World)(tv:Value)(tw:List (Option Addr×Option Addr))(Bb N came i:Nat):Prop where
 new:∀g,own g≠0->base<=g
 books:eU (fun g=>own g=2) W Bb N came
 hN:N<=2*i
 hcm:came<=i
 row:W.ownsRow base 76 2 tv tw.length (tw.flatMap jG)
 rown:∀g,tv.ownBlock=some g->own g=1
 few:tw.length<=i
 each:∀j p,tw[j]?= some p->fK (fun g=>own g=3+j) W p.1 p.2 i
theorem fE.next{base:Nat}{own:Nat->Nat}{W:World}{tv:Value}{tw:List (Option Addr×Option Addr)}{Bb N came i i':Nat}(h:fE base own W tv tw Bb N came i)(hi:i<=i'):fE base own W tv tw Bb N came i':=
 ⟨h.new,h.books,by have:=h.hN;omega,by have:=h.hcm;omega,h.row,h.rown,by have:=h.few;omega,fun j p hj=>(h.each j p hj).kept (aB.refl (fun _=>False) W) (fun g _ hg=>⟨fun h=>h,hg⟩) hi⟩
theorem fE.later{base:Nat}{own:Nat->Nat}{W W':World}{tv:Value}{tw:List (Option Addr×Option Addr)}{Bb N came i:Nat}(h:fE base own W tv tw Bb N came i)(hb:Below W.heap.size W W'):fE base (fun g=>if g < W.heap.size then own g else 0) W' tv tw Bb N came i:=by
 have hk:aB (fun b=>W.heap.size<=b) W W':=aB.of_below hb (fun _ _ h=>h);refine⟨fun g hg=> ?_,h.books.kept hk (fun g hl hg=>⟨by omega,by simp[hl,hg]⟩),h.hN,h.hcm,mK h.row hb,fun g e=> ?_,h.few,fun j p hj=>(h.each j p hj).kept hk (fun g hl hg=>⟨by omega,by simp[hl,hg]⟩) (a_ _)⟩
 ·by_cases hl:g < W.heap.size
  ·exact h.new g (by simpa[hl]using hg)
  ·simp[hl]at hg
 ·have:=(h.row.lt g e).2
  simp[this,h.rown g e]
theorem fE.changed{base:Nat}{own:Nat->Nat}{W W':World}{tv:Value}{tw:List (Option Addr×Option Addr)}{Bb N came i m:Nat}{p:Option Addr×Option Addr}(h:fE base own W tv tw Bb N came i)(hbase:base<=W.heap.size)(hm:tw[m]?= some p)
  (hk:aB (fun g=>own g=3+m) W W') (ht:fK (fun g=>own g=3+m\/W.heap.size<=g) W' p.1 p.2 (i+1)):fE base (fun g=>if g < W.heap.size then own g else 3+m) W' tv tw Bb N came (i+1):=by
 refine⟨fun g hg=> ?_,h.books.kept hk (fun g hl hg=>⟨by omega,by simp[hl,hg]⟩),by have:=h.hN;omega,by have:=h.hcm;omega,aP h.row hk (fun g e hg=>by have:=h.rown g e;omega) (a_ _),fun g e=> ?_,by have:=h.few;omega,fun j q hj=> ?_⟩
 ·by_cases hl:g < W.heap.size
  ·exact h.new g (by simpa[hl]using hg)
  ·omega
 ·have:=(h.row.lt g e).2
  simp[this,h.rown g e]
 ·by_cases hjm:j=m
  ·subst hjm
   rw[hm]at hj;cases hj;refine ht.kept (aB.refl (fun _=>False) W') (fun g _ hg=>⟨fun h=>h,?_⟩) (a_ _);by_cases hl:g < W.heap.size
   ·rcases hg with hg|hg
    ·simp[hl,hg]
    ·omega
   ·simp[hl]
  ·exact(h.each j q hj).kept hk (fun g hl hg=>⟨by omega,by simp[hl,hg]⟩) (by omega)
theorem fE.asked{base:Nat}{own:Nat->Nat}{W W':World}{tv:Value}{tw:List (Option Addr×Option Addr)}{Bb N N' came i:Nat}(h:fE base own W tv tw Bb N came i)(hbase:base<=W.heap.size)
  (hk:aB (fun g=>own g=2) W W') (hN':N'<=N+2) (ht:eU (fun g=>own g=2\/W.heap.size<=g) W' Bb N' (came+1)):fE base (fun g=>if g < W.heap.size then own g else 2) W' tv tw Bb N' (came+1) (i+1):=by
 refine⟨fun g hg=> ?_,ht.mono (fun g _ hg=> ?_),by have:=h.hN;omega,by have:=h.hcm;omega,aP h.row hk (fun g e hg=>by have:=h.rown g e;omega) (a_ _),fun g e=> ?_,by have:=h.few;omega,fun j q hj=>(h.each j q hj).kept hk (fun g hl hg=>⟨by omega,by simp[hl,hg]⟩) (by omega)⟩
 ·by_cases hl:g < W.heap.size
  ·exact h.new g (by simpa[hl]using hg)
  ·omega
 ·by_cases hl:g < W.heap.size
  ·rcases hg with hg|hg
   ·simp[hl,hg]
   ·omega
  ·simp[hl]
 ·have:=(h.row.lt g e).2
  simp[this,h.rown g e]
theorem fE.added{base:Nat}{own:Nat->Nat}{W W1 W2:World}{tv tv':Value}{tw:List (Option Addr×Option Addr)}{Bb N came i:Nat}{p:Option Addr×Option Addr}(h:fE base own W tv tw Bb N came i)(hbase:base<=W.heap.size)(hb:Below W.heap.size W W1)
  (ht:fK (fun g=>W.heap.size<=g/\g < W1.heap.size) W1 p.1 p.2 0) (hk:aB (fun b=>tv.ownBlock=some b) W1 W2) (hr:W2.ownsRow base 76 2 tv' (tw++ [p]).length ((tw++ [p]).flatMap jG)) (ho:∀g,tv'.ownBlock=some g->tv.ownBlock=some g\/W1.heap.size<=g) :
  fE base (fun g=>if g < W.heap.size then own g else if g < W1.heap.size then 3+tw.length else 1) W2 tv' (tw++ [p]) Bb N came (i+1):=by
 have hs:=hb.size;have hk1:aB (fun b=>W.heap.size<=b) W W1:=aB.of_below hb (fun _ _ h=>h);have hlt:∀g,tv.ownBlock=some g->g < W.heap.size:=fun g e=>(h.row.lt g e).2
 have hk2:aB (fun b=>tv.ownBlock=some b) W W2:=(hk1.mono (fun b h1 h2=>by omega)).trans hk;refine⟨fun g hg=> ?_,h.books.kept hk2 (fun g hl hg=>⟨fun e=>by have:=h.rown g e;omega,by simp[hl,hg]⟩),by have:=h.hN;omega,by have:=h.hcm;omega,hr,fun g e=> ?_,by have:=h.few;simp;omega,fun j q hj=> ?_⟩
 ·by_cases hl:g < W.heap.size
  ·exact h.new g (by simpa[hl]using hg)
  ·omega
 ·rcases ho g e with e'|e'
  ·simp[hlt g e',h.rown g e']
  ·simp[show¬g < W.heap.size by omega,show¬g < W1.heap.size by omega]
 ·rcases Nat.lt_or_ge j tw.length with hjl|hjl
  ·rw[List.getElem?_append_left hjl]at hj
   exact(h.each j q hj).kept hk2 (fun g hl hg=>⟨fun e=>by have:=h.rown g e;omega,by simp[hl,hg]⟩) (by omega)
  ·have hj0:j=tw.length:=by
    have:=(c_.1 hj).1;simp at this;omega
   subst hj0;rw[i7 (a_ _)]at hj;simp at hj;subst hj;refine ht.kept hk (fun g hl hg=>⟨fun e=>by have:=hlt g e;omega,?_⟩) (by omega);simp[show¬g < W.heap.size by omega,hg.2]
theorem fE.start(base:Nat)(W:World)(hb:base<=W.heap.size):fE base (fun g=>if g=W.heap.size then 2 else 0) (W.alloc (Obj.cells #[.int .i64 0,.int .i64 0,.bool false,.slice none 0 0,.slice none 0 0,.slice none 0 0,.slice none 0 0,.slice none 0 0,.slice none 0 0,.slice none 0 0] 71)) (.slice none 0 0) [] W.heap.size 0 0 0:=
 ⟨fun g hg=>by
   by_cases h:g=W.heap.size
   ·omega
   ·simp[h]at hg,(eU.new W).mono (fun g _ hg=>by simp[hg]),a_ _,a_ _,World.ownsRow_nil _ _ _ _,(fun g e=>by cases e),a_ _,fun j p hj=>by simp at hj⟩
theorem rA(tw:List (Option Addr×Option Addr)):∀(j:Nat) (p:Option Addr×Option Addr),tw[j]?= some p->(tw.flatMap jG)[j*2]?= some (.pointer p.1)/\(tw.flatMap jG)[j*2+1]?= some (.pointer p.2):=by
 induction tw with
 |nil=>intro j d h;simp at h
 |cons e r ih=>
  intro j d h;rw[List.flatMap_cons];cases j with
  |zero=>simp at h;subst h;exact⟨rfl,rfl⟩
  |succ j=>
   obtain⟨h1,h2⟩:=ih j d (by simpa using h);rw[show(j+1)*2=j*2+2 from by omega];constructor
   ·rw[i7 (by simp[jG])]
    have e:j*2+2 - (jG e).length=j*2:=by simp[jG]
    rw[e];exact h1
   ·rw[i7 (by simp[jG])]
    have e:j*2+2+1 - (jG e).length=j*2+1:=by simp[jG]
    rw[e];exact h2
end Go.Proofs.YtfanaanofjhlkaaGreatDoor
