import Derived.Test.YtfanaanofjhlkaaGreatDoorXPass
import Derived.Test.YtfanaanofjhlkaaGreatDoorXRound
import Derived.Test.YtfanaanofjhlkaaGreatDoorFine4
import Derived.Test.YtfanaanofjhlkaaGreatDoorRefRing
set_option maxHeartbeats 16000000
set_option maxRecDepth 100000
namespace Go.Proofs.YtfanaanofjhlkaaGreatDoor
open Go Go.RowKit Tryz
abbrev rR(W W1 W2 W3:World):List iO:=[pT 110 W,(146,#[],#[.pointer (some ⟨W1.heap.size,0,none⟩)]),dU 147 W2,dU 96 W3]
theorem xO(rp:Option Addr)(i:Int)(w:World)(R:Ending->World->Prop)
  (h:∀W1 W2 W3 W4 W5 W6,dM w rp i=W1->pX W1 i=W2->dM W2 rp i=W3->dM W3 rp i=W4->dM W4 rp i=W5->W5.alloc (Obj.cells ((rR w W1 W2 W3++ [dU 148 W4]).map eH).toArray 94)=W6->Calls prog 42 #[.pointer rp,.slice (some ⟨W5.heap.size,0,none⟩) 5 5] W6 fun e w'=>(∃r,e= .returned (.int .i64 r))/\R e w') :
  Calls prog 39 #[.pointer rp,.int .i64 i] w R:=by
 obtain⟨W1,h1⟩:∃W1,dM w rp i=W1:=⟨_,rfl⟩;obtain⟨W2,h2⟩:∃W2,pX W1 i=W2:=⟨_,rfl⟩;obtain⟨W3,h3⟩:∃W3,dM W2 rp i=W3:=⟨_,rfl⟩;obtain⟨W4,h4⟩:∃W4,dM W3 rp i=W4:=⟨_,rfl⟩;obtain⟨W5,h5⟩:∃W5,dM W4 rp i=W5:=⟨_,rfl⟩;obtain⟨W6,h6⟩:∃W6,W5.alloc (Obj.cells ((rR w W1 W2 W3++ [dU 148 W4]).map eH).toArray 94)=W6:=⟨_,rfl⟩;have HC:=aC (h W1 W2 W3 W4 W5 W6 h1 h2 h3 h4 h5 h6);have H1:Hid ((w.alloc (Obj.cells #[.pointer rp] 36)).alloc (Obj.cells #[.int .i64 i] 3)=W1):=h1;have H2:=aC h2;have H3:=aC h3;have H4:=aC h4;have H5:=aC h5;have H6:=aC h6;clear h h1 h2 h3 h4 h5 h6;go_enter func39,ntmps39
 go_wp2_with (first
  |(go_at_call 51;refine(mU rp i w).mono ?_;rintro e a1 ⟨rfl,hq⟩;obtain rfl:W1=a1:=H1.out.symm.trans hq.symm;clear hq)
  |(go_at_call 86;refine(aBy i W1).mono ?_;rintro e a1 ⟨rfl,hq⟩;obtain rfl:W2=a1:=H2.out.symm.trans hq.symm;clear hq)
  |(go_at_call 87;refine(vG rp i W2).mono ?_;rintro e a1 ⟨rfl,hq⟩;obtain rfl:W3=a1:=H3.out.symm.trans hq.symm;clear hq)
  |(go_at_call 43;refine(tI rp i W3).mono ?_;rintro e a1 ⟨rfl,hq⟩;obtain rfl:W4=a1:=H4.out.symm.trans hq.symm;clear hq)
  |(go_at_call 88;refine(aBd rp i W4).mono ?_;rintro e a1 ⟨rfl,hq⟩;obtain rfl:W5=a1:=H5.out.symm.trans hq.symm;clear hq)
  |(go_at_call 42;refine Calls.at_world H6.out ?_;refine HC.out.mono ?_;rintro e a7 ⟨⟨r,rfl⟩,hr⟩))
 exact hr
theorem aHs(i:Int)(w:World):Calls prog 39 #[.pointer none,.int .i64 i] w fun e w'=>e= .returned (.int .i64 1)/\Below w.heap.size w w':=by
 refine xO none i w _ (fun W1 W2 W3 W4 W5 W6 h1 h2 h3 h4 h5 h6=> ?_);refine(mZ W5.heap.size 5 W6).mono ?_;rintro e w' ⟨rfl,hb⟩;have g1:=eN w none i;have g2:=xZ W1 i;have g3:=eN W2 none i;have g4:=eN W3 none i;have g5:=eN W4 none i;rw[h1]at g1;rw[h2]at g2;rw[h3]at g3;rw[h4]at g4;rw[h5]at g5;have g6:Below W5.heap.size W5 W6:=by rw[<-h6];exact(e_ _ _).alloc (a_ _) _
 have z1:=g1.size;have z2:=g2.size;have z3:=g3.size;have z4:=g4.size;have z5:=g5.size;have z6:=g6.size;exact⟨⟨1,rfl⟩,rfl,(((((g1.trans (g2.mono (by omega))).trans (g3.mono (by omega))).trans (g4.mono (by omega))).trans (g5.mono (by omega))).trans (g6.mono (by omega))).trans (hb.mono (by omega))⟩
theorem aEr(F:Nat->Prop)(B N:Nat)(s:aE)(i:Int)(w:World)(hx:bK F w B s)(hf:kD s)(hs:cX s)(hN:dS N s)(hN':N<=90000000)(hkn:iF s)(hcn:∀x∈s.W,-100000000000000000<=x.token.count/\x.token.count<=100000000000000000) :
  Calls prog 39 #[.pointer (some ⟨B,0,none⟩),.int .i64 i] w (eK F w B (eL s i)):=by
 refine xO (some ⟨B,0,none⟩) i w _ (fun W1 W2 W3 W4 W5 W6 h1 h2 h3 h4 h5 h6=> ?_);have g1:=eN w (some ⟨B,0,none⟩) i;have g2:=xZ W1 i;have g3:=eN W2 (some ⟨B,0,none⟩) i;have g4:=eN W3 (some ⟨B,0,none⟩) i;have g5:=eN W4 (some ⟨B,0,none⟩) i;have a1:=jE w B i;have a2:aD (pX W1 i) W1.heap.size 3 #[.int .i64 i]:=aD.new W1 _ _;have a3:=jE W2 B i;have a4:=jE W3 B i;have a5:=jE W4 B i;rw[h1]at g1 a1;rw[h2]at g2 a2;rw[h3]at g3 a3;rw[h4]at g4 a4;rw[h5]at g5 a5;have g6:Below W5.heap.size W5 W6:=by rw[<-h6];exact(e_ _ _).alloc (a_ _) _
 have bL:aD W6 W5.heap.size 94 ((rR w W1 W2 W3++ [dU 148 W4]).map eH).toArray:=by rw[<-h6];exact aD.new W5 _ _
 have z1:=g1.size;have z2:=g2.size;have z3:=g3.size;have z4:=g4.size;have z5:=g5.size;have z6:=g6.size;have k5:Below W4.heap.size W4 W6:=g5.trans (g6.mono z5);have k4:Below W3.heap.size W3 W6:=g4.trans (k5.mono z4);have k3:Below W2.heap.size W2 W6:=g3.trans (k4.mono z3);have k2:Below W1.heap.size W1 W6:=g2.trans (k3.mono z2);have hb:Below w.heap.size w W6:=g1.trans (k2.mono z1);have c1:=a1.below k2;have c2:=a2.below k3 a2.lt;have c3:=a3.below k4;have c4:=a4.below k5;have c5:=a5.below g6;clear a1 a2 a3 a4 a5 h1 h2 h3 h4 h5 h6 g1 g2 g3 g4 g5 k2 k3 k4 k5;have hlow:=hx.low;obtain⟨x0,hx0⟩:∃x0,s.W[i.toNat]?.getD cR=x0:=⟨_,rfl⟩;have hlen:=hs.len;have h5w:=hs.five;have valid:∀{t:Int},¬(t < 0\/s.workers<=t)->∃(k:Nat),t=(k:Int)/\k < s.W.length:=fun{t} ht=>⟨t.toNat,by omega,by omega⟩
 have getx:∀{k:Nat},i=(k:Int)->k < s.W.length->s.W[k]?= some x0:=fun{k} hi hk=>by
  rw[<-hx0,hi];simp[hk]
 refine(nO F B W5.heap.size s W6 (hx.later hb) (rR w W1 W2 W3) [if i < 0\/s.workers<=i then 7 else 0,if i=0 then 9 else 0,if s.mode=1/\x0.has=true then 0 else 9,if x0.tasks.length=0 then 0 else 9] (dU 148 W4) (eL s i) w hb hx (by simp) (by simp) 94 bL ?over ?enter ?test ?bad ?last).mono (fun e w' h=>⟨⟨_,h.1⟩,h⟩)
 case over=>
  intro ho;simp[eL,qG ho,ho]
 case enter=>
  intro f hf' args W;simp at hf';rcases hf' with rfl|rfl|rfl|rfl|rfl
  ·exact enters_of func110 (by kernel_rfl) rfl args W
  ·exact enters_of func146 (by kernel_rfl) rfl args W
  ·exact enters_of func147 (by kernel_rfl) rfl args W
  ·exact enters_of func96 (by kernel_rfl) rfl args W
  ·exact enters_of func148 (by kernel_rfl) rfl args W
 case test=>
  intro hd ho j f e hj he hp W hW;have hxW:=(hx.later hb).later hW
  match j,hj,he with
  |0,hj,he=>cases hj;cases he;exact oD F B _ _ s i W hxW hf (c1.below hW)
  |1,hj,he=>cases hj;cases he;exact aBs _ i W (c2.below hW c2.lt)
  |2,hj,he=>
   cases hj;cases he;obtain⟨k,rfl,hk⟩:=valid (jA (by omega) (hp 0 _ (by omega) rfl));exact vC F B _ _ k s x0 W hxW (getx rfl hk) (c3.below hW)
  |3,hj,he=>
   cases hj;cases he;obtain⟨k,rfl,hk⟩:=valid (jA (by omega) (hp 0 _ (by omega) rfl));exact sW F B _ _ k s x0 W hxW (getx rfl hk) (c4.below hW)
  |(n+4),hj,he=>simp at hj
 case bad=>
  intro hd ho j e he hne hp;have wi:=mY hd ho i;have busy:∀(k:Nat),i=(k:Int)->k < s.W.length->dG s i=0->(s.mode≠1\/i=0\/x0.has=false\/x0.tasks≠ [])->eL s i=(s,9):=fun k hik hk h0 hc=>by
   have hg:=getx hik hk;unfold eL;rw[if_neg (by rw[h0];simp),hik,Int.toNat_natCast,hg];dsimp only;rw[<-hik,if_pos hc]
  match j,he with
  |0,he=>cases he;simp only[eL,wi,if_pos hne]
  |1,he=>
   cases he;have p0:=hp 0 _ (by omega) rfl;obtain⟨k,hik,hk⟩:=valid (jA (by omega) p0);have hi0:i=0:=by
    by_cases h:i=0
    ·exact h
    ·rw[if_neg h]at hne;exact absurd rfl hne
   rw[busy k hik hk (wi.trans p0) (.inr (.inl hi0)),if_pos hi0]
  |2,he=>
   cases he;have p0:=hp 0 _ (by omega) rfl;obtain⟨k,hik,hk⟩:=valid (jA (by omega) p0);have hq:¬(s.mode=1/\x0.has=true):=fun q=>by rw[if_pos q]at hne;exact absurd rfl hne
   rw[if_neg hq];refine busy k hik hk (wi.trans p0) ?_;by_cases h1:s.mode=1
   ·cases h2:x0.has
    ·exact .inr (.inr (.inl rfl))
    ·exact absurd ⟨h1,h2⟩ hq
   ·exact .inl h1
  |3,he=>
   cases he;have p0:=hp 0 _ (by omega) rfl;obtain⟨k,hik,hk⟩:=valid (jA (by omega) p0);have ht:x0.tasks≠ []:=fun h=>by rw[h]at hne;simp at hne
   have ht':¬x0.tasks.length=0:=fun h=>ht (List.length_eq_zero_iff.1 h)
   rw[if_neg ht'];exact busy k hik hk (wi.trans p0) (.inr (.inr (.inr ht)))
  |(n+4),he=>simp at he
 case last=>
  intro hd ho hp W hW;have p0:=hp 0 _ (by simp) rfl;have p1:=jA (by omega) (hp 1 _ (by simp) rfl);have p2:=hp 2 _ (by simp) rfl;have p3:=hp 3 _ (by simp) rfl;have wi:=mY hd ho i;rw[p0]at wi;obtain⟨k,rfl,hk⟩:=valid (jA (by omega) p0);have hg:=getx rfl hk;have q2:s.mode=1/\x0.has=true:=by
   by_cases h:s.mode=1/\x0.has=true
   ·exact h
   ·rw[if_neg h]at p2;exact absurd p2 (by omega)
  have q3:x0.tasks=[]:=by
   by_cases h:x0.tasks.length=0
   ·exact List.length_eq_zero_iff.1 h
   ·rw[if_neg h]at p3;exact absurd p3 (by omega)
  have hres:eL s (k:Int)=(aR {s with W:=s.W.set k {x0 with black:=false,has:=false}} {aH with src:=(k:Int),dst:=(k:Int) - 1,kind:=5,count:=x0.token.count+x0.sent - x0.came,black:=x0.token.black||x0.black},0):=by
   rw[aJu _ _ _ _ (by simp)];unfold eL;rw[if_neg (by rw[wi];simp),Int.toNat_natCast,hg];dsimp only;rw[if_neg (by rintro(h|h|h|h);exact h q2.1;exact p1 h;rw[q2.2]at h;cases h;exact h q3)]
  rw[hres];have hbW:Below w.heap.size w W:=hb.trans (hW.mono hb.size);exact aAs _ B _ _ k N s x0 W (hlow.later hbW) hg (by omega) q2.1 q2.2 hs hN hN' hkn (hcn x0 (d_ hg)) (c5.below hW) ⟨fun h=>by omega,fun h=>by omega⟩
theorem aJl{s:aE}(hm:∀L b,s.answers=L++ [b]->b.many<=s.workers):(lR s.workers s.answers==0)= !iJ s:=by
 by_cases h:s.answers=[]
 ·unfold lR iJ
  simp[h]
 ·obtain⟨L,a,ha⟩:=tH h
  have h1:=hm L a ha;have h2:iJ s=decide (a.many < s.workers):=by unfold iJ;rw[ha];simp
  have h3:lR s.workers s.answers=s.workers - a.many:=by rw[ha];exact qV _ _ _
  rw[h2,h3,Bool.eq_iff_iff];simp;omega
theorem aIm{s:aE}:jW s=(decide ((2:Int)<=(s.answers.length:Int))&&((eX s.answers).sent==(eX s.answers).came)&&((iE s.answers).sent==(iE s.answers).came)&&((iE s.answers).sent==(eX s.answers).sent)&&(iE s.answers).idle):=by
 by_cases h:s.answers=[]
 ·simp[jW,h]
 ·obtain⟨L,b,hb⟩:=tH h
  by_cases h':L=[]
  ·subst h'
   simp[jW,hb]
  ·obtain⟨K,a,ha⟩:∃K a,L=K++ [a]:=⟨L.dropLast,L.getLast h',(List.dropLast_concat_getLast h').symm⟩
   subst ha;have e1:iE s.answers=b:=by rw[hb];exact pF _ _
   have e2:eX s.answers=a:=by rw[hb,tF];exact pF _ _
   have e3:jW s=nS a b:=by unfold jW;rw[hb];simp
   have e4:decide ((2:Int)<=(s.answers.length:Int))=true:=by rw[hb];simp;omega
   have e5:(b.sent==a.sent)=(a.sent==b.sent):=by rw[Bool.eq_iff_iff];simp;exact eq_comm
   rw[e1,e2,e3,e4,e5];unfold nS;simp
theorem aCk(B:Nat)(cs:Array Value)(n:Int)(w:World)(hb:aD w B 105 cs)(h8:cs[8]?= some (.int .i64 n)):Calls prog 160 #[.pointer (some ⟨B,7,none⟩)] w fun e w'=>e= .returned (.bool (n==0))/\w=w':=by
 have c8:=hb.cell h8;clear hb h8;go_enter func160,ntmps160
 go_wp2_with fail
 go_ret;exact⟨rfl,rfl⟩
theorem xH(B o:Nat)(a b:Int)(w:World)(h0:w.cell? ⟨B,o,none⟩=some (.int .i64 a))(h1:w.cell? ⟨B,o+1,none⟩=some (.int .i64 b)):Calls prog 190 #[.pointer (some ⟨B,o,none⟩)] w fun e w'=>e= .returned (.bool (a==b))/\Below w.heap.size w w':=by
 go_enter func190,ntmps190
 go_upto_region 1 with fail
 go_quiet (fail)
 go_wp2_with fail
 go_ret;exact⟨rfl,below_drewN (e_ _ _) _⟩
theorem aDp(B:Nat)(cs:Array Value)(n ls lc bs bc:Int)(lb:Bool)(w:World)(hb:aD w B 105 cs)(h7:cs[7]?= some (.int .i64 n))(h9:cs[9]?= some (.int .i64 ls))(h10:cs[10]?= some (.int .i64 lc))(h11:cs[11]?= some (.bool lb))(h12:cs[12]?= some (.int .i64 bs))(h13:cs[13]?= some (.int .i64 bc)) :
  Calls prog 161 #[.pointer (some ⟨B,7,none⟩)] w fun e w'=>e= .returned (.bool (decide ((2:Int)<=n)&&(bs==bc)&&(ls==lc)&&(ls==bs)&& !lb))/\Below w.heap.size w w':=by
 have c9:=hb.cell h9;have c12:=hb.cell h12;obtain⟨sm,hsm⟩:∃sm,(ls==bs)=sm:=⟨_,rfl⟩;obtain⟨e1,he1⟩:∃e1,(bs==bc)=e1:=⟨_,rfl⟩;obtain⟨e2,he2⟩:∃e2,(ls==lc)=e2:=⟨_,rfl⟩;have HC:Hid (∀U,Below w.heap.size w U->U.cell? ⟨B,7,none⟩=some (.int .i64 n)/\U.cell? ⟨B,9,none⟩=some (.int .i64 ls)/\U.cell? ⟨B,10,none⟩=some (.int .i64 lc)/\U.cell? ⟨B,11,none⟩=some (.bool lb)/\U.cell? ⟨B,12,none⟩=some (.int .i64 bs)/\U.cell? ⟨B,13,none⟩=some (.int .i64 bc)):=fun U hU=>by
  have h:=hb.below hU hb.lt;exact⟨h.cell h7,h.cell h9,h.cell h10,h.cell h11,h.cell h12,h.cell h13⟩
 have HE:Hid (∀U o,Below w.heap.size w U->(o=12\/o=9)->Calls prog 190 #[.pointer (some ⟨B,o,none⟩)] U fun e w'=>e= .returned (.bool (if o=12 then e1 else e2))/\Below w.heap.size w w'):=fun U o hU ho=>by
  obtain⟨-,q2,q3,-,q5,q6⟩:=HC.out U hU;rcases ho with rfl|rfl
  ·refine(xH B 12 bs bc U q5 q6).mono ?_
   rintro e w' ⟨rfl,h⟩;exact⟨by rw[he1,if_pos rfl],hU.trans (h.mono hU.size)⟩
  ·refine(xH B 9 ls lc U q2 q3).mono ?_
   rintro e w' ⟨rfl,h⟩;exact⟨by rw[he2,if_neg (by omega)],hU.trans (h.mono hU.size)⟩
 obtain⟨gg,hgg⟩:∃gg,decide ((2:Int)<=n)=gg:=⟨_,rfl⟩;rw[hsm,he1,he2,hgg];clear hb h7 h9 h10 h11 h12 h13 he1 he2;go_enter func161,ntmps161
 go_upto_region 1 with fail
 go_quiet (fail)
 obtain⟨U,hU⟩:∃U,w.drewN nq=U:=⟨_,rfl⟩;have gU:Below w.heap.size w U:=by rw[<-hU];exact below_drewN (e_ _ _) _
 rw[hU];clear hU c9 c12;have HGU:=aC gU;obtain⟨q1,q2,q3,q4,q5,q6⟩:=HC.out U gU;clear gU;cases gg
 ·have hn':n < 2:=by have:=of_decide_eq_false hgg;omega
  have hn2:¬(2:Int)<=n:=of_decide_eq_false hgg
  go_wp2_with fail
  go_ret;exact⟨by simp,HGU.out⟩
 ·have hn:(2:Int)<=n:=of_decide_eq_true hgg
  cases e1
  ·go_wp2_with (go_at_call 190;first|(refine(HE.out _ _ HB1.out (.inr rfl)).mono ?_;rintro e w2 ⟨he,hb2⟩;rw[if_neg (by omega)]at he;subst he;obtain⟨s1,s2,s3,s4,s5,s6⟩:=HC.out w2 hb2;have HB2:=aC hb2;clear hb2)|(refine(HE.out _ _ HGU.out (.inl rfl)).mono ?_;rintro e w1 ⟨he,hb1⟩;rw[if_pos rfl]at he;subst he;obtain⟨r1,r2,r3,r4,r5,r6⟩:=HC.out w1 hb1;have HB1:=aC hb1;clear hb1))
   go_ret;exact⟨by simp,HB1.out⟩
  ·cases e2
   ·go_wp2_with (go_at_call 190;first|(refine(HE.out _ _ HB1.out (.inr rfl)).mono ?_;rintro e w2 ⟨he,hb2⟩;rw[if_neg (by omega)]at he;subst he;obtain⟨s1,s2,s3,s4,s5,s6⟩:=HC.out w2 hb2;have HB2:=aC hb2;clear hb2)|(refine(HE.out _ _ HGU.out (.inl rfl)).mono ?_;rintro e w1 ⟨he,hb1⟩;rw[if_pos rfl]at he;subst he;obtain⟨r1,r2,r3,r4,r5,r6⟩:=HC.out w1 hb1;have HB1:=aC hb1;clear hb1))
    go_ret;exact⟨by simp,HB2.out⟩
   ·cases sm
    all_goals
     go_wp2_with (go_at_call 190;first|(refine(HE.out _ _ HB1.out (.inr rfl)).mono ?_;rintro e w2 ⟨he,hb2⟩;rw[if_neg (by omega)]at he;subst he;obtain⟨s1,s2,s3,s4,s5,s6⟩:=HC.out w2 hb2;have HB2:=aC hb2;clear hb2)|(refine(HE.out _ _ HGU.out (.inl rfl)).mono ?_;rintro e w1 ⟨he,hb1⟩;rw[if_pos rfl]at he;subst he;obtain⟨r1,r2,r3,r4,r5,r6⟩:=HC.out w1 hb1;have HB1:=aC hb1;clear hb1))
     go_ret;exact⟨by simp,HB2.out⟩
theorem aMh(n:Nat){part:Nat->Nat}{w:World}{B M:Nat}{s:aE}{kv wv yv:Value}{xs:List XW}(h:aQ part w B s kv wv yv M xs)(hn:(n:Int)=s.workers)(hl:s.answers.length<=1000000000) :
  Calls prog 162 #[.pointer (some ⟨B,7,none⟩),.int .i64 (n:Int)] w fun e w'=>∃v,e= .returned v/\(v= .int .i64 ((s.answers.length:Int)+1)/\∃part',aQ part' w' B {s with answers:=s.answers++ [⟨0,0,0,true⟩]} kv wv yv M xs/\bD part part' w w'/\aB (·= B) w w'):=by
 have hb:=h.box;obtain⟨ls,hls⟩:∃q,(iE s.answers).sent=q:=⟨_,rfl⟩;obtain⟨lc,hlc⟩:∃q,(iE s.answers).came=q:=⟨_,rfl⟩;obtain⟨lb,hlb⟩:∃q,(!(iE s.answers).idle)=q:=⟨_,rfl⟩;obtain⟨an,han⟩:∃q,(s.answers.length:Int)=q:=⟨_,rfl⟩;have c7:w.cell? ⟨B,7,none⟩=some (.int .i64 an):=by rw[<-han];exact hb.cell (o:=7) rfl
 have c8:=hb.cell (o:=8) rfl;have c9:w.cell? ⟨B,9,none⟩=some (.int .i64 ls):=by rw[<-hls];exact hb.cell (o:=9) rfl
 have c10:w.cell? ⟨B,10,none⟩=some (.int .i64 lc):=by rw[<-hlc];exact hb.cell (o:=10) rfl
 have c11:w.cell? ⟨B,11,none⟩=some (.bool lb):=by rw[<-hlb];exact hb.cell (o:=11) rfl
 have c12:=hb.cell (o:=12) rfl;have c13:=hb.cell (o:=13) rfl;have c14:=hb.cell (o:=14) rfl;have f7:=hb.frozen 7;have f8:=hb.frozen 8;have f9:=hb.frozen 9;have f10:=hb.frozen 10;have f11:=hb.frozen 11;have f12:=hb.frozen 12;have f13:=hb.frozen 13;have f14:=hb.frozen 14;have hwr:IntKind.i64.wrap (an+1)=an+1:=IntWalk.i64_in _ (by omega);have hb0:aD w B 105 #[kv,.int .i64 s.kind,.int .i64 s.arg,.int .i64 s.mode,wv,yv,.map (some M),.int .i64 an,.int .i64 (lR s.workers s.answers),.int .i64 ls,.int .i64 lc,.bool lb,.int .i64 (eX s.answers).sent,.int .i64 (eX s.answers).came,.bool (!(eX s.answers).idle),.bool s.done,.bool s.over]:=by rw[<-han,<-hls,<-hlc,<-hlb];exact hb
 obtain⟨Y7,hY7⟩:∃Y,w.setCell ⟨B,7,none⟩ (.int .i64 (an+1))=Y:=⟨_,rfl⟩;have hb7:aD Y7 B 105 #[kv,.int .i64 s.kind,.int .i64 s.arg,.int .i64 s.mode,wv,yv,.map (some M),.int .i64 (an+1),.int .i64 (lR s.workers s.answers),.int .i64 ls,.int .i64 lc,.bool lb,.int .i64 (eX s.answers).sent,.int .i64 (eX s.answers).came,.bool (!(eX s.answers).idle),.bool s.done,.bool s.over]:=by rw[<-hY7];exact hb0.setAt 7 _
 have kY7:aB (·= B) w Y7:=by rw[<-hY7];exact(aB.refl (·= B) w).setCell (.inl (by rfl)) _
 obtain⟨Y8,hY8⟩:∃Y,Y7.setCell ⟨B,8,none⟩ (.int .i64 (n:Int))=Y:=⟨_,rfl⟩;have hb8:aD Y8 B 105 #[kv,.int .i64 s.kind,.int .i64 s.arg,.int .i64 s.mode,wv,yv,.map (some M),.int .i64 (an+1),.int .i64 (n:Int),.int .i64 ls,.int .i64 lc,.bool lb,.int .i64 (eX s.answers).sent,.int .i64 (eX s.answers).came,.bool (!(eX s.answers).idle),.bool s.done,.bool s.over]:=by rw[<-hY8];exact hb7.setAt 8 _
 have kY8:aB (·= B) w Y8:=by rw[<-hY8];exact kY7.setCell (.inl (by rfl)) _
 obtain⟨Y9,hY9⟩:∃Y,Y8.setCell ⟨B,9,none⟩ (.int .i64 0)=Y:=⟨_,rfl⟩;have hb9:aD Y9 B 105 #[kv,.int .i64 s.kind,.int .i64 s.arg,.int .i64 s.mode,wv,yv,.map (some M),.int .i64 (an+1),.int .i64 (n:Int),.int .i64 0,.int .i64 lc,.bool lb,.int .i64 (eX s.answers).sent,.int .i64 (eX s.answers).came,.bool (!(eX s.answers).idle),.bool s.done,.bool s.over]:=by rw[<-hY9];exact hb8.setAt 9 _
 have kY9:aB (·= B) w Y9:=by rw[<-hY9];exact kY8.setCell (.inl (by rfl)) _
 obtain⟨Y10,hY10⟩:∃Y,Y9.setCell ⟨B,10,none⟩ (.int .i64 0)=Y:=⟨_,rfl⟩;have hb10:aD Y10 B 105 #[kv,.int .i64 s.kind,.int .i64 s.arg,.int .i64 s.mode,wv,yv,.map (some M),.int .i64 (an+1),.int .i64 (n:Int),.int .i64 0,.int .i64 0,.bool lb,.int .i64 (eX s.answers).sent,.int .i64 (eX s.answers).came,.bool (!(eX s.answers).idle),.bool s.done,.bool s.over]:=by rw[<-hY10];exact hb9.setAt 10 _
 have kY10:aB (·= B) w Y10:=by rw[<-hY10];exact kY9.setCell (.inl (by rfl)) _
 obtain⟨Y11,hY11⟩:∃Y,Y10.setCell ⟨B,11,none⟩ (.bool false)=Y:=⟨_,rfl⟩;have hb11:aD Y11 B 105 #[kv,.int .i64 s.kind,.int .i64 s.arg,.int .i64 s.mode,wv,yv,.map (some M),.int .i64 (an+1),.int .i64 (n:Int),.int .i64 0,.int .i64 0,.bool false,.int .i64 (eX s.answers).sent,.int .i64 (eX s.answers).came,.bool (!(eX s.answers).idle),.bool s.done,.bool s.over]:=by rw[<-hY11];exact hb10.setAt 11 _
 have kY11:aB (·= B) w Y11:=by rw[<-hY11];exact kY10.setCell (.inl (by rfl)) _
 obtain⟨Y12,hY12⟩:∃Y,Y11.setCell ⟨B,12,none⟩ (.int .i64 ls)=Y:=⟨_,rfl⟩;have hb12:aD Y12 B 105 #[kv,.int .i64 s.kind,.int .i64 s.arg,.int .i64 s.mode,wv,yv,.map (some M),.int .i64 (an+1),.int .i64 (n:Int),.int .i64 0,.int .i64 0,.bool false,.int .i64 ls,.int .i64 (eX s.answers).came,.bool (!(eX s.answers).idle),.bool s.done,.bool s.over]:=by rw[<-hY12];exact hb11.setAt 12 _
 have kY12:aB (·= B) w Y12:=by rw[<-hY12];exact kY11.setCell (.inl (by rfl)) _
 obtain⟨Y13,hY13⟩:∃Y,Y12.setCell ⟨B,13,none⟩ (.int .i64 lc)=Y:=⟨_,rfl⟩;have hb13:aD Y13 B 105 #[kv,.int .i64 s.kind,.int .i64 s.arg,.int .i64 s.mode,wv,yv,.map (some M),.int .i64 (an+1),.int .i64 (n:Int),.int .i64 0,.int .i64 0,.bool false,.int .i64 ls,.int .i64 lc,.bool (!(eX s.answers).idle),.bool s.done,.bool s.over]:=by rw[<-hY13];exact hb12.setAt 13 _
 have kY13:aB (·= B) w Y13:=by rw[<-hY13];exact kY12.setCell (.inl (by rfl)) _
 obtain⟨Y14,hY14⟩:∃Y,Y13.setCell ⟨B,14,none⟩ (.bool lb)=Y:=⟨_,rfl⟩;have hb14:aD Y14 B 105 #[kv,.int .i64 s.kind,.int .i64 s.arg,.int .i64 s.mode,wv,yv,.map (some M),.int .i64 (an+1),.int .i64 (n:Int),.int .i64 0,.int .i64 0,.bool false,.int .i64 ls,.int .i64 lc,.bool lb,.bool s.done,.bool s.over]:=by rw[<-hY14];exact hb13.setAt 14 _
 have kY14:aB (·= B) w Y14:=by rw[<-hY14];exact kY13.setCell (.inl (by rfl)) _
 have e1:(iY {s with answers:=s.answers++ [⟨0,0,0,true⟩],done:=s.done,over:=s.over} kv wv yv M)= #[kv,.int .i64 s.kind,.int .i64 s.arg,.int .i64 s.mode,wv,yv,.map (some M),.int .i64 (an+1),.int .i64 (n:Int),.int .i64 0,.int .i64 0,.bool false,.int .i64 ls,.int .i64 lc,.bool lb,.bool s.done,.bool s.over]:=by
  unfold iY;dsimp only;have q1:(((s.answers++ [(⟨0,0,0,true⟩:fD)]).length:Nat):Int)=an+1:=by rw[f_,List.length_singleton];omega
  have q2:lR s.workers (s.answers++ [⟨0,0,0,true⟩])=(n:Int):=by rw[qV];show s.workers - 0=_;omega
  rw[q1,q2,pF,tF,hls,hlc,hlb];rfl
 have hbox:aD Y14 B 105 (iY {s with answers:=s.answers++ [⟨0,0,0,true⟩],done:=s.done,over:=s.over} kv wv yv M):=by rw[e1];exact hb14
 obtain⟨h1,h2⟩:=h.rebox (an:=s.answers++ [⟨0,0,0,true⟩]) (d:=s.done) (o:=s.over) kY14 hbox;have H1:=aC h1;have H2:=aC h2;have HK:=aC kY14;have HN:Hid ((n:Int)=s.workers):=hn;clear hn;have HY7:=aC hY7;have HY8:=aC hY8;have HY9:=aC hY9;have HY10:=aC hY10;have HY11:=aC hY11;have HY12:=aC hY12;have HY13:=aC hY13;have HY14:=aC hY14;rw[han];clear h hb hb0 h1 h2 hbox hls hlc hlb e1 hb7 kY7 hY7 hb8 kY8 hY8 hb9 kY9 hY9 hb10 kY10 hY10 hb11 kY11 hY11 hb12 kY12 hY12 hb13 kY13 hY13 hb14 kY14 hY14;go_enter func162,ntmps162
 go_wp2_with fail
 go_ret;rw[HY7.out,HY8.out,HY9.out,HY10.out,HY11.out,HY12.out,HY13.out,HY14.out];exact⟨_,rfl,rfl,_,H1.out,H2.out,HK.out⟩
theorem iF.rest{s s':aE}(h:iF s)(e:s'.links=s.links):iF s':=by unfold iF at *;rw[e];exact h
theorem aIl{s:aE}(n:Int)(h:iF s):∀(l:List Nat),iF (l.foldl (eR n) s):=by
 intro l
 induction l generalizing s with
 |nil=>exact h
 |cons k l ih=>rw[List.foldl_cons];exact ih (h.send _)
theorem aAm(F:Nat->Prop)(B:Nat)(s:aE)(w:World)(hx:bK F w B s)(hm:∀L b,s.answers=L++ [b]->b.many<=s.workers):Calls prog 99 #[.pointer (some ⟨B,0,none⟩)] w fun e w'=>e= .returned (.int .i64 (if iJ s=true then 9 else 0))/\Below w.heap.size w w':=by
 obtain⟨part,-,kv,wv,yv,M,xs,h⟩:=hx;have HA:=aC (aCk B _ (lR s.workers s.answers) w h.box rfl);rw[aJl hm]at HA;obtain⟨ob,hob⟩:∃ob,iJ s=ob:=⟨_,rfl⟩;rw[hob]at HA ⊢;clear h hob;go_enter func99,ntmps99;cases ob
 all_goals
  go_wp2_with (go_at_call 160;refine HA.out.mono ?_;rintro e w1 ⟨rfl,rfl⟩)
  go_ret;exact⟨rfl,e_ _ _⟩
theorem aAg(F:Nat->Prop)(B N:Nat)(s:aE)(x:cF)(w:World)(hx:bK F w B s)(hx0:s.W[0]?= some x)(hx1:x.tasks=[])(hs:cX s)(hN:dS N s)(hN':N+10<=90000000)(hkn:iF s)(hL:s.answers.length<=90000000) :
  Calls prog 100 #[.pointer (some ⟨B,0,none⟩)] w (eK F w B (if jW s=true then({s with done:=true},0)else((List.range' 1 (s.W.length - 1)).foldl (eR (s.answers.length+1)) (dA {s with answers:=s.answers++ [⟨0,0,0,true⟩]} x.sent x.came true),0))):=by
 obtain⟨part,hpF,kv,wv,yv,M,xs,h⟩:=hx;have hlen:=hs.len;have h2:=hs.two;have h5:=hs.five;have hway:=hs.way;have hxl:=h.wlen;obtain⟨xw,hxw⟩:∃xw,xs[0]?= some xw:=⟨_,b_ (by omega)⟩;obtain⟨gw,wc,hwf,-,hgw⟩:=World.ownsRow.form h.wrow.1 (by omega);subst hwf;have b3:w.cell? ⟨B,4,none⟩=some (.slice (some ⟨gw,0,none⟩) xs.length wc):=h.box.cell (o:=4) rfl;have hxm:=d_ hx0;have hsent:=hN.sent x hxm;have hgot:=hN.got x hxm;have HSE:=aC (aDp B _ (s.answers.length:Int) (iE s.answers).sent (iE s.answers).came (eX s.answers).sent (eX s.answers).came (!(iE s.answers).idle) w h.box rfl rfl rfl rfl rfl rfl);rw[Bool.not_not,<-aIm]at HSE;obtain⟨tw,htw⟩:∃tw,jW s=tw:=⟨_,rfl⟩;rw[htw]at HSE ⊢;have HH:=aC h;have HPF:=aC hpF;cases tw
 ·
  have HB2:Hid (∀U,Below w.heap.size w U->Calls prog 162 #[.pointer (some ⟨B,7,none⟩),.int .i64 (xs.length:Int)] U fun e w'=>∃v,e= .returned v/\(v= .int .i64 ((s.answers.length:Int)+1)/\∃part',aQ part' w' B {s with answers:=s.answers++ [⟨0,0,0,true⟩]} kv (.slice (some ⟨gw,0,none⟩) xs.length wc) yv M xs/\bD part part' w w')):=fun U hU=>by
   obtain⟨h3,hm3⟩:=HH.out.later hU;refine(aMh xs.length h3 (by omega) (by omega)).mono ?_;rintro e w' ⟨v,rfl,rfl,part',h4,hm4,-⟩;exact⟨_,rfl,rfl,part',h4,hm3.trans hm4⟩
  have HRP:Hid (∀U part1,aQ part1 U B {s with answers:=s.answers++ [⟨0,0,0,true⟩]} kv (.slice (some ⟨gw,0,none⟩) xs.length wc) yv M xs->bD part part1 w U->∀r,Calls prog 164 #[.pointer (some ⟨gw,0,none⟩),.int .i64 r] U fun e w'=>∃v,e= .returned v/\(v= .agg (aG {aH with kind:=7,round:=r,sent:=x.sent,came:=x.came,idle:=true})/\∃part8,aQ part8 w' B {s with answers:=s.answers++ [⟨0,0,0,true⟩]} kv (.slice (some ⟨gw,0,none⟩) xs.length wc) yv M xs/\bD part part8 w w'/\w'.cell? ⟨B,4,none⟩=some (.slice (some ⟨gw,0,none⟩) xs.length wc))):=fun U part1 h7 hm7 r=>by
   have hx7:=h7.wat 0 xw x hxw hx0;have q0:U.cell? ⟨gw,0*8,none⟩=some (.pointer (some ⟨xw.T,0,none⟩)):=h7.xcell hxw 0 _ rfl;have q:=vX _ gw 0 xw.T r x.sent x.came s.room x.tasks U q0 (by rw[<-hx7.1.sent];exact h7.xcell hxw 4 _ rfl) (by rw[<-hx7.1.came];exact h7.xcell hxw 5 _ rfl) hx7.2 (h7.wrow.1.lt gw rfl).2;rw[hx1]at q;refine q.mono ?_;rintro e w' ⟨v,rfl,rfl,hb8⟩;obtain⟨h8,hm8⟩:=h7.later hb8;exact⟨_,rfl,rfl,_,h8,hm7.trans hm8,h8.box.cell (o:=4) rfl⟩
  have HNT:Hid (∀U part8 r bb,aQ part8 U B {s with answers:=s.answers++ [⟨0,0,0,true⟩]} kv (.slice (some ⟨gw,0,none⟩) xs.length wc) yv M xs->bD part part8 w U->bb=U.heap.size->Calls prog 163 #[.pointer (some ⟨B,7,none⟩),.slice (some ⟨bb,0,none⟩) 1 1] (U.alloc (Obj.cells (aG {aH with kind:=7,round:=r,sent:=x.sent,came:=x.came,idle:=true}) 124)) fun e w'=>∃v,e= .returned v/\(v= .tuple #[]/\∃part9,aQ part9 w' B (dA {s with answers:=s.answers++ [⟨0,0,0,true⟩]} x.sent x.came true) kv (.slice (some ⟨gw,0,none⟩) xs.length wc) yv M xs/\bD part part9 w w'/\w'.cell? ⟨B,4,none⟩=some (.slice (some ⟨gw,0,none⟩) xs.length wc))):=fun U part8 r bb h8 hm8 hbb=>by
   subst hbb;obtain⟨h9,hm9⟩:=h8.later ((e_ U.heap.size U).alloc (a_ _) (Obj.cells (aG {aH with kind:=7,round:=r,sent:=x.sent,came:=x.came,idle:=true}) 124));refine(zG {aH with kind:=7,round:=r,sent:=x.sent,came:=x.came,idle:=true} U.heap.size h9 (L:=s.answers) (a:=⟨0,0,0,true⟩) rfl (by simp) (by simp) (by simp) ⟨hsent.1,by show x.sent<=_;omega,hgot.1,by show x.came<=_;omega⟩ (by show -100<=s.workers/\s.workers<=100;omega) (aD.new U _ _)).mono ?_;rintro e w' ⟨v,rfl,rfl,part9,h10,hm10⟩;exact⟨_,rfl,rfl,part9,h10,(hm8.trans hm9).trans hm10,h10.box.cell (o:=4) rfl⟩
  have HRES:Hid ((if false=true then(({s with done:=true}:aE),(0:Int))else((List.range' 1 (s.W.length - 1)).foldl (eR (s.answers.length+1)) (dA {s with answers:=s.answers++ [⟨0,0,0,true⟩]} x.sent x.came true),0))=((List.range' 1 (s.W.length - 1)).foldl (eR (s.answers.length+1)) (dA {s with answers:=s.answers++ [⟨0,0,0,true⟩]} x.sent x.came true),0)):=by show _=_;simp
  rw[HRES.out];obtain⟨s2,hs2⟩:∃s2,dA {s with answers:=s.answers++ [⟨0,0,0,true⟩]} x.sent x.came true=s2:=⟨_,rfl⟩;rw[hs2]at HNT ⊢;have e2:s2={s with answers:=s.answers++ [⟨0+1,0+x.sent,0+x.came,true&&true⟩]}:=by rw[<-hs2,xB (L:=s.answers) (a:=⟨0,0,0,true⟩) rfl]
  have H2S:Hid (cX s2/\dS N s2/\iF s2/\s2.W=s.W):=by
   rw[e2];exact⟨⟨hs.len,hs.two,hs.five,hs.llen,hs.lrow,hs.way⟩,⟨hN.all,hN.known,hN.came,hN.kept,hN.sent,hN.got⟩,hkn.rest rfl,rfl⟩
  obtain⟨rn,hrn⟩:∃rn,(s.answers.length:Int)+1=rn:=⟨_,rfl⟩;rw[hrn]at HB2 ⊢;simp only[aH]at HRP HNT;have HXL:Hid (xs.length=s.W.length):=hxl;have hW2:2<=s.W.length/\s.W.length<=5:=by omega
  have n1:(0:Int) < (xs.length:Int):=by omega
  have n2:0 < xs.length:=by omega
  have n3:¬xs.length=0:=by omega
  clear h hs2 e2 hrn hsent hgot hxm hxl hlen;go_enter func100,ntmps100
  go_upto_region 4 with(go_at_call 161;refine HSE.out.mono ?_;rintro e w1 ⟨rfl,hb1⟩)
  have c3:w1.cell? ⟨B,4,none⟩=some (.slice (some ⟨gw,0,none⟩) xs.length wc):=(HH.out.box.below hb1 HH.out.box.lt).cell (o:=4) rfl;have HG1:=aC hb1;clear hb1 b3
  go_still_tail 8,(by kernel_rfl)
  go_upto_region 5 with(go_at_call 162;refine(HB2.out _ (by first|exact HG1.out|exact HG1.out.drew)).mono ?_;rintro e w2 ⟨v2,rfl,rfl,part2,h2',hm2⟩)
  have c4:w2.cell? ⟨B,4,none⟩=some (.slice (some ⟨gw,0,none⟩) xs.length wc):=h2'.box.cell (o:=4) rfl;have H2':=aC h2';have HM2:=aC hm2;have HD2:=aC (h2'.later ((e_ w2.heap.size w2).drew));clear h2' hm2 c3
  go_region_law (first
   |(refine dY (by rfl) 164 _ _ _ (by rfl) (.pointer (some ⟨gw,0,none⟩)) (.int .i64 rn) (by rfl) (by rfl) (enters_of func164 (by kernel_rfl) rfl) (HRP.out _ _ HD2.out.1 (HM2.out.trans HD2.out.2) rn) ?_;rintro v8 w8 ⟨rfl,part8,h8,hm8,c8⟩;have H8:=aC h8;have HM8:=aC hm8;clear h8 hm8)
   |(refine dY (by rfl) 163 _ _ _ (by rfl) (.pointer (some ⟨B,7,none⟩)) (.slice (some ⟨w8.heap.size,0,none⟩) 1 1) (by rfl) (by rfl) (enters_of func163 (by kernel_rfl) rfl) (HNT.out w8 part8 rn _ H8.out HM8.out rfl) ?_;rintro v9 w9 ⟨rfl,part9,h9,hm9,c9⟩;have H9:=aC h9;have HM9:=aC hm9;clear h9 hm9))
  all_goals
   clear c4 c8;obtain⟨h2s,h2n,h2k,h2w⟩:=H2S.out;have H2S':Hid (cX s2):=h2s;have H2N:=aC h2n;have H2K:=aC h2k;have H2W:=aC h2w;clear h2s h2n h2k h2w
   go_wp2_with fail
   go_loopw [4] (fun iv wr=>∃(q:Nat) (part':Nat->Nat) (yv':Value) (xs':List XW),iv= .int .i64 ((q+1:Nat):Int)/\q+1<=s.W.length/\aQ part' wr B ((List.range' 1 q).foldl (eR rn) s2) kv (.slice (some ⟨gw,0,none⟩) xs.length wc) yv' M xs'/\bD part part' w wr) (fun iv _=>s.W.length - (intOf iv).toNat)
   case atStart=>exact⟨0,part9,yv,xs,by simp,by omega,H9.out,HM9.out⟩
   case round=>
    obtain⟨q,part',yv',xs',rfl,hq,hx',hmv'⟩:=hrel
    rename World=>wr
    obtain⟨s',hs'⟩:∃s',(List.range' 1 q).foldl (eR rn) s2=s':=⟨_,rfl⟩;have hf:=xL rn H2S'.out H2N.out (List.range' 1 q);have hk:=aIl rn H2K.out (List.range' 1 q);have hle:(List.range' 1 q).length=q:=List.length_range' ..;rw[hs',hle]at hf;rw[hs']at hk hx';have hW:s'.W.length=s.W.length:=by rw[<-hx'.wlen,hx'.xlen,HXL.out]
    have d3:wr.cell? ⟨B,4,none⟩=some (.slice (some ⟨gw,0,none⟩) xs.length wc):=hx'.box.cell (o:=4) rfl;have HX':=aC hx';have HMV:=aC hmv';by_cases hlt:q+1 < s.W.length
    ·have HNX:Hid ((List.range' 1 (q+1)).foldl (eR rn) s2=aR s' {aH with src:=0,dst:=((q+1:Nat):Int),kind:=6,round:=rn}):=by
      show _=_;rw[List.range'_1_concat,List.foldl_append,hs',Nat.add_comm 1 q];rfl
     obtain⟨ls,hls⟩:∃ls,s'.links[0]?= some ls:=⟨_,b_ (by rw[hf.1.llen];omega)⟩;have hlm:=d_ hls;obtain⟨l,hl⟩:∃l,ls[q+1]?= some l:=⟨_,b_ (by rw[hf.1.lrow ls hlm];omega)⟩;have hlmm:=d_ hl;have hall:=hf.2.1.all ls hlm l hlmm;have hknl:=hk ls hlm l hlmm;have hwy:=hf.1.way;have HSD:Hid (∀(U:World) (bb:Nat),U=wr.alloc (Obj.cells (aG {aH with kind:=6,round:=rn}) 124)->bb=wr.heap.size->Calls prog 165 #[.pointer (some ⟨B,0,none⟩),.int .i64 0,.int .i64 ((q+1:Nat):Int),.slice (some ⟨bb,0,none⟩) 1 1] U fun e w'=>∃v,e= .returned v/\(v= .tuple #[]/\∃part9 yv9 xs9,aQ part9 w' B ((List.range' 1 (q+1)).foldl (eR rn) s2) kv (.slice (some ⟨gw,0,none⟩) xs.length wc) yv9 M xs9/\bD part part9 w w')):=fun U bb hU hbb=>by
      subst hU hbb;obtain⟨h9,hm9⟩:=HX'.out.later ((e_ wr.heap.size wr).alloc (a_ _) (Obj.cells (aG {aH with kind:=6,round:=rn}) 124));have q9:=oO 0 (q+1) {aH with kind:=6,round:=rn} wr.heap.size h9 hls hl (by omega) hknl (by omega) (by omega) (aD.new wr _ _);refine q9.mono ?_;rintro e w' ⟨v,rfl,rfl,part',yv9,h10,hm10⟩;refine⟨_,rfl,rfl,part',yv9,xs',?_,(HMV.out.trans hm9).trans hm10⟩;rw[HNX.out,pH _ 0 (q+1) _ (by simp) rfl rfl];exact h10
     simp only[aH]at HSD;have l1:((q+1:Nat):Int) < (xs.length:Int):=by have:=HXL.out;omega
     clear hx' hmv' hf hk hls hl hall hknl hs'
     go_wp2_with (go_at_call 165;refine(HSD.out _ _ rfl rfl).mono ?_;rintro e w3 ⟨v3,rfl,rfl,part3,yv3,xs3,h3,hm3⟩;have H3:=aC h3;have HM3:=aC hm3;clear h3 hm3)
     go_roundw
     case rel=>exact⟨q+1,part3,yv3,xs3,by go_num,by omega,H3.out,HM3.out⟩
     case measure=>simp[intOf];omega
    ·have l1:¬((q+1:Nat):Int) < (xs.length:Int):=by have:=HXL.out;omega
     have hqe:q=s.W.length - 1:=by omega
     have HSS:Hid ((List.range' 1 (s.W.length - 1)).foldl (eR rn) s2=s'):=by show _=_;rw[<-hqe];exact hs'
     clear hx' hmv' hf hk hs'
     go_wp2_with fail
     go_ret;rw[HSS.out];obtain⟨h5,h6⟩:=HMV.out.okX HX'.out HPF.out;exact⟨rfl,h5,h6⟩
 ·
  have HRES:Hid ((if true=true then(({s with done:=true}:aE),(0:Int))else((List.range' 1 (s.W.length - 1)).foldl (eR (s.answers.length+1)) (dA {s with answers:=s.answers++ [⟨0,0,0,true⟩]} x.sent x.came true),0))=({s with done:=true},0)):=by show _=_;simp
  rw[HRES.out];clear h;go_enter func100,ntmps100
  go_upto_region 2 with(go_at_call 161;refine HSE.out.mono ?_;rintro e w1 ⟨rfl,hb1⟩)
  obtain⟨h3,hm3⟩:=HH.out.later hb1;have c15:=h3.box.cell (o:=15) rfl;have f15:=h3.box.frozen 15;have H3:=aC h3;have HM3:=aC hm3;clear h3 hm3 hb1
  go_wp2_with fail
  go_ret;have k4:aB (·= B) w1 (w1.setCell ⟨B,15,none⟩ (.bool true)):=(aB.refl (·= B) w1).setCell (.inl (by rfl)) _;obtain⟨h4,hm4⟩:=H3.out.rebox (an:=s.answers) (d:=true) (o:=s.over) k4 (H3.out.box.setAt 15 _);obtain⟨h5,h6⟩:=(HM3.out.trans hm4).okX h4 HPF.out;exact⟨rfl,h5,h6⟩
theorem aBx(cnt:Int)(b r:Bool)(w:World):Calls prog 159 #[.agg #[.int .i64 cnt,.bool b,.bool r]] w fun e w'=>e= .returned (.bool (r&& !b&&(cnt==0)))/\Below w.heap.size w w':=by
 cases r<;>cases b
 all_goals
  go_enter func159,ntmps159
  go_wp2_with fail
  go_ret;exact⟨by simp,(e_ _ _).alloc (a_ _) _⟩
theorem aGf(s:aE)(x:cF):((0==0&&s.around)&& !(x.token.black||x.black)&&(x.token.count+(x.sent - x.came)==0))=lQ s x:=by
 have e:x.token.count+(x.sent - x.came)=x.token.count+x.sent - x.came:=by omega
 unfold lQ;rw[e];cases s.around<;>cases x.token.black<;>cases x.black<;>simp
theorem aAl(F:Nat->Prop)(B N:Nat)(s:aE)(x:cF)(w:World)(hx:bK F w B s)(hk:s.W[0]?= some x)(hm:s.mode=1)(hhas:x.has=true)(hs:cX s)(hN:dS N s)(hN':N<=90000000)(hkn:iF s)(hcn: -100000000000000000<=x.token.count/\x.token.count<=100000000000000000) :
  Calls prog 98 #[.pointer (some ⟨B,0,none⟩)] w (eK F w B (if lQ s x=true then({s with done:=true},0)else(aR {s with W:=s.W.set 0 {x with black:=false,has:=false}} {aH with src:=0,dst:=s.workers - 1,kind:=5},0))):=by
 obtain⟨part,hpF,kv,wv,yv,M,xs,h⟩:=hx;have hlen:=hs.len;have h2:=hs.two;have h5:=hs.five;have hway:=hs.way;have hxl:=h.wlen;obtain⟨xw,hxw⟩:∃xw,xs[0]?= some xw:=⟨_,b_ (by omega)⟩;obtain⟨gw,wc,hwf,-,hgw⟩:=World.ownsRow.form h.wrow.1 (by omega);subst hwf;have b3:w.cell? ⟨B,4,none⟩=some (.slice (some ⟨gw,0,none⟩) xs.length wc):=h.box.cell (o:=4) rfl;have hxm:=d_ hk;have hsent:=hN.sent x hxm;have hgot:=hN.got x hxm;obtain⟨ls,hls⟩:∃ls,s.links[0]?= some ls:=⟨_,b_ (by rw[hs.llen];omega)⟩;have hlm:=d_ hls;obtain⟨l,hl⟩:∃l,ls[s.W.length - 1]?= some l:=⟨_,b_ (by rw[hs.lrow ls hlm];omega)⟩;have hlmm:=d_ hl;have hall:=hN.all ls hlm l hlmm;have hknl:=hkn ls hlm l hlmm;have HTD:=aC (zJ h hxw hk hm hhas (by omega) (by omega) hcn);have HSE:Hid (∀U,Calls prog 159 #[.agg #[.int .i64 (x.token.count+(x.sent - x.came)),.bool (x.token.black||x.black),.bool (0==0&&s.around)]] U fun e w'=>e= .returned (.bool (lQ s x))/\Below U.heap.size U w'):=fun U=>by
  rw[<-aGf s x];exact aBx _ _ _ U
 obtain⟨tc,htc⟩:∃tc,x.token.count+(x.sent - x.came)=tc:=⟨_,rfl⟩;obtain⟨tb,htb⟩:∃tb,(x.token.black||x.black)=tb:=⟨_,rfl⟩;obtain⟨tr,htr⟩:∃tr,((0:Nat)==0&&s.around)=tr:=⟨_,rfl⟩;rw[htc,htb,htr]at HTD;rw[htc,htb,htr]at HSE;obtain⟨rb,hrb⟩:∃rb,lQ s x=rb:=⟨_,rfl⟩;rw[hrb]at HSE ⊢;have HD:Hid (∀U,Below w.heap.size w U->Calls prog 149 #[.pointer (some ⟨B,0,none⟩),.int .i64 0,.int .i64 ((xs.length:Int) - 1),.agg #[.int .i64 0,.bool false,.bool false]] U fun e w'=>∃v,e= .returned v/\(v= .tuple #[]/\eK F w B (aR {s with W:=s.W.set 0 {x with black:=false,has:=false}} {aH with src:=0,dst:=s.workers - 1,kind:=5},0) (.returned (.int .i64 0)) w')):=fun U hU=>by
  obtain⟨h7,hm7⟩:=h.later hU;have hd:(xs.length:Int) - 1=((s.W.length - 1:Nat):Int):=by omega
  have hd2:s.workers - 1=((s.W.length - 1:Nat):Int):=by omega
  rw[hd];have q:=wR 0 (s.W.length - 1) 0 false false h7 hk hls hl (by omega) hknl (by omega) (by omega);refine q.mono ?_;rintro e w' ⟨v,rfl,rfl,part',yv',xs',h8,hm8⟩;obtain⟨h9,h10⟩:=(hm7.trans hm8).okX h8 hpF;refine⟨_,rfl,rfl,rfl,?_,h10⟩;rw[hd2];exact h9
 have HH:=aC h;have HPF:=aC hpF;have kw:IntKind.i64.wrap ((xs.length:Int) - 1)=(xs.length:Int) - 1:=IntWalk.i64_in _ (by omega);have n1:(0:Int) < (xs.length:Int):=by omega
 have n2:0 < xs.length:=by omega
 have n3:¬xs.length=0:=by omega
 have n4:1<=xs.length:=by omega
 clear h hxl hlen htc htb htr hrb hls hl hall hknl;cases rb
 ·have HRES:Hid ((if false=true then(({s with done:=true}:aE),(0:Int))else(aR {s with W:=s.W.set 0 {x with black:=false,has:=false}} {aH with src:=0,dst:=s.workers - 1,kind:=5},0))=(aR {s with W:=s.W.set 0 {x with black:=false,has:=false}} {aH with src:=0,dst:=s.workers - 1,kind:=5},0)):=by show _=_;simp
  rw[HRES.out];go_enter func98,ntmps98
  go_upto_region 4 with(first
   |(go_at_call 150;refine HTD.out.mono ?_;rintro e w1 ⟨v1,rfl,rfl,hb1⟩;have HB1:=aC hb1;clear hb1)
   |(go_at_call 159;refine(HSE.out _).mono ?_;rintro e w2 ⟨rfl,hb2⟩;have HB2:=aC hb2;clear hb2))
  have gb:Below w.heap.size w w2:=HB1.out.trans (HB2.out.mono HB1.out.size);have c3:w2.cell? ⟨B,4,none⟩=some (.slice (some ⟨gw,0,none⟩) xs.length wc):=(HH.out.box.below gb HH.out.box.lt).cell (o:=4) rfl;have HGB:=aC gb;clear gb b3
  go_wp2_with (go_at_call 149;refine(HD.out _ HGB.out).mono ?_;rintro e w3 ⟨v3,rfl,rfl,hres⟩;have HR3:=aC hres;clear hres)
  go_ret;exact HR3.out
 ·have HRES:Hid ((if true=true then(({s with done:=true}:aE),(0:Int))else(aR {s with W:=s.W.set 0 {x with black:=false,has:=false}} {aH with src:=0,dst:=s.workers - 1,kind:=5},0))=({s with done:=true},0)):=by show _=_;simp
  rw[HRES.out];go_enter func98,ntmps98
  go_upto_region 2 with(first
   |(go_at_call 150;refine HTD.out.mono ?_;rintro e w1 ⟨v1,rfl,rfl,hb1⟩;have HB1:=aC hb1;clear hb1)
   |(go_at_call 159;refine(HSE.out _).mono ?_;rintro e w2 ⟨rfl,hb2⟩;have HB2:=aC hb2;clear hb2))
  obtain⟨h3,hm3⟩:=HH.out.later (HB1.out.trans (HB2.out.mono HB1.out.size));have c15:=h3.box.cell (o:=15) rfl;have f15:=h3.box.frozen 15;have H3:=aC h3;have HM3:=aC hm3;clear h3 hm3
  go_wp2_with fail
  go_ret;have k4:aB (·= B) w2 (w2.setCell ⟨B,15,none⟩ (.bool true)):=(aB.refl (·= B) w2).setCell (.inl (by rfl)) _;obtain⟨h4,hm4⟩:=H3.out.rebox (an:=s.answers) (d:=true) (o:=s.over) k4 (H3.out.box.setAt 15 _);obtain⟨h5,h6⟩:=(HM3.out.trans hm4).okX h4 HPF.out;exact⟨rfl,h5,h6⟩
structure zE(N:Nat)(s:aE):Prop where
 shape:cX s
 small:dS N s
 le:N+10<=90000000
 known:iF s
 toks:∀x∈s.W,-100000000000000000<=x.token.count/\x.token.count<=100000000000000000
 few:s.answers.length<=90000000
 many:∀L b,s.answers=L++ [b]->b.many<=s.workers
theorem aEt(F:Nat->Prop)(B N:Nat)(s:aE)(x:cF)(w:World)(hx:bK F w B s)(hC:zE N s)(hk:s.W[0]?= some x)(ht:x.tasks=[]) :
  Calls prog 44 #[.pointer (some ⟨B,0,none⟩)] w (eK F w B (if s.mode=1 then fP s else gD s)):=by
 have hle:=hC.le;have hxm:=d_ hk;have hlow:=hx.low;have same:∀(r:Int) W,Below w.heap.size w W->eK F w B (s,r) (.returned (.int .i64 r)) W:=fun r W hb=>⟨rfl,(hx.later hb).mono (fun b _ h=> .inl h),aB.of_below hb (fun b h1 h2=>by omega)⟩
 have up:∀(res:aE×Int) W,Below w.heap.size w W->∀e w',eK (fun b=>F b/\b < w.heap.size) W B res e w'->∃r,e= .returned (.int .i64 r)/\eK F w B res (.returned (.int .i64 r)) w':=fun res W hb e w' hg=>by
  obtain⟨rfl,g2,g3⟩:=hg;have z:=hb.size;refine⟨_,rfl,rfl,g2.mono (fun b _ h=> ?_),(aB.of_below hb (X:=F) (fun b h1 h2=>by omega)).andThen g3 (fun b _ h=>h.1)⟩;rcases h with h|h
  ·exact .inl h.1
  ·exact .inr (by omega)
 obtain⟨part,-,kv,wv,yv,M,xs,h⟩:=hx;have b3:w.cell? ⟨B,3,none⟩=some (.int .i64 s.mode):=h.box.cell (o:=3) rfl;clear h;by_cases hm:s.mode=1
 ·have hmb:(s.mode==1)=true:=by rw[hm];rfl
  obtain⟨W1,hW1⟩:∃W1,dM w (some ⟨B,0,none⟩) 0=W1:=⟨_,rfl⟩;obtain⟨W2,hW2⟩:∃W2,W1.alloc (Obj.cells (([dU 147 w]++ [((98,#[.pointer (some ⟨B,0,none⟩)],#[]):iO)]).map eH).toArray 94)=W2:=⟨_,rfl⟩;have g1:=eN w (some ⟨B,0,none⟩) 0;have a1:=jE w B 0;rw[hW1]at g1 a1;have g2:Below W1.heap.size W1 W2:=by rw[<-hW2];exact(e_ _ _).alloc (a_ _) _
  have bL:aD W2 W1.heap.size 94 (([dU 147 w]++ [((98,#[.pointer (some ⟨B,0,none⟩)],#[]):iO)]).map eH).toArray:=by rw[<-hW2];exact aD.new W1 _ _
  have gb:Below w.heap.size w W2:=g1.trans (g2.mono g1.size);have c1:=a1.below g2;have key:Calls prog 95 #[.slice (some ⟨W1.heap.size,0,none⟩) 2 2] W2 fun e w'=>∃r,e= .returned (.int .i64 r)/\eK F w B (fP s) (.returned (.int .i64 r)) w':=by
   refine(tD W1.heap.size [dU 147 w] [if s.mode=1/\x.has=true then 0 else 9] (98,#[.pointer (some ⟨B,0,none⟩)],#[]) W2 (fun r w'=>eK F w B (fP s) (.returned (.int .i64 r)) w') (by simp) (by simp) 94 bL ?_ ?_ ?_ ?_)
   ·intro f hf' args W
    simp at hf';rcases hf' with rfl|rfl
    ·exact enters_of func147 (by kernel_rfl) rfl args W
    ·exact enters_of func98 (by kernel_rfl) rfl args W
   ·intro j f e hj he hp W hW
    match j,hj,he with
    |0,hj,he=>cases hj;cases he;exact vC _ B _ _ 0 s x W (hlow.later (gb.trans (hW.mono gb.size))) hk (c1.below hW)
    |(n+1),hj,he=>simp at hj
   ·intro j e he hne hp W hW
    match j,he with
    |0,he=>
     cases he;have hq:¬(s.mode=1/\x.has=true):=fun q=>by rw[if_pos q]at hne;exact absurd rfl hne
     have hres:fP s=(s,9):=by
      unfold fP;rw[hk];dsimp only;rw[if_pos];cases hh:x.has
      ·exact .inl rfl
      ·exact absurd ⟨hm,hh⟩ hq
     rw[if_neg hq,hres];exact same 9 W (gb.trans (hW.mono gb.size))
    |(n+1),he=>simp at he
   ·intro hp W hW
    have p0:=hp 0 _ (by simp) rfl;have q0:s.mode=1/\x.has=true:=by
     by_cases h:s.mode=1/\x.has=true
     ·exact h
     ·rw[if_neg h]at p0;exact absurd p0 (by omega)
    have hres:fP s=if lQ s x=true then({s with done:=true},0)else(aR {s with W:=s.W.set 0 {x with black:=false,has:=false}} {aH with src:=0,dst:=s.workers - 1,kind:=5},0):=by
     unfold fP;rw[hk];dsimp only;rw[if_neg];rintro(h|h)
     ·rw[q0.2]at h;cases h
     ·exact h ht
    have gW:=gb.trans (hW.mono gb.size);rw[hres];exact(aAl _ B N s x W (hlow.later gW) hk hm q0.2 hC.shape hC.small (by omega) hC.known (hC.toks x hxm)).mono (fun e w' hg=>up _ W gW e w' hg)
  have HKEY:=aC key;have H1:=aC hW1;have H2:=aC hW2;rw[if_pos hm];obtain⟨res,hres⟩:∃res,fP s=res:=⟨_,rfl⟩;rw[hres]at HKEY ⊢;clear key hW1 hW2 g1 a1 g2 bL gb c1 hm same up hlow;go_enter func44,ntmps44
  go_wp2_with (first
   |(go_at_call 87;refine(vG (some ⟨B,0,none⟩) 0 w).mono ?_;rintro e a1 ⟨rfl,hq⟩;obtain rfl:W1=a1:=H1.out.symm.trans hq.symm;clear hq)
   |(go_at_call 95;refine Calls.at_world H2.out ?_;refine HKEY.out.mono ?_;rintro e a7 ⟨r,rfl,hr⟩))
  go_ret;exact hr
 ·have hmb:(s.mode==1)=false:=by rw[g_];exact hm
  obtain⟨W2,hW2⟩:∃W2,w.alloc (Obj.cells (([((99,#[.pointer (some ⟨B,0,none⟩)],#[]):iO)]++ [((100,#[.pointer (some ⟨B,0,none⟩)],#[]):iO)]).map eH).toArray 94)=W2:=⟨_,rfl⟩;have gb:Below w.heap.size w W2:=by rw[<-hW2];exact(e_ _ _).alloc (a_ _) _
  have bL:aD W2 w.heap.size 94 (([((99,#[.pointer (some ⟨B,0,none⟩)],#[]):iO)]++ [((100,#[.pointer (some ⟨B,0,none⟩)],#[]):iO)]).map eH).toArray:=by rw[<-hW2];exact aD.new w _ _
  have key:Calls prog 95 #[.slice (some ⟨w.heap.size,0,none⟩) 2 2] W2 fun e w'=>∃r,e= .returned (.int .i64 r)/\eK F w B (gD s) (.returned (.int .i64 r)) w':=by
   refine(tD w.heap.size [(99,#[.pointer (some ⟨B,0,none⟩)],#[])] [if iJ s=true then 9 else 0] (100,#[.pointer (some ⟨B,0,none⟩)],#[]) W2 (fun r w'=>eK F w B (gD s) (.returned (.int .i64 r)) w') (by simp) (by simp) 94 bL ?_ ?_ ?_ ?_)
   ·intro f hf' args W
    simp at hf';rcases hf' with rfl|rfl
    ·exact enters_of func99 (by kernel_rfl) rfl args W
    ·exact enters_of func100 (by kernel_rfl) rfl args W
   ·intro j f e hj he hp W hW
    match j,hj,he with
    |0,hj,he=>cases hj;cases he;exact aAm _ B s W (hlow.later (gb.trans (hW.mono gb.size))) hC.many
    |(n+1),hj,he=>simp at hj
   ·intro j e he hne hp W hW
    match j,he with
    |0,he=>
     cases he;have hq:iJ s=true:=by
      by_cases h:iJ s=true
      ·exact h
      ·rw[if_neg h]at hne;exact absurd rfl hne
     have hres:gD s=(s,9):=by
      unfold gD;rw[hk];dsimp only;rw[if_pos (.inr hq)]
     rw[if_pos hq,hres];exact same 9 W (gb.trans (hW.mono gb.size))
    |(n+1),he=>simp at he
   ·intro hp W hW
    have p0:=jA (by omega) (hp 0 _ (by simp) rfl);have hres:gD s=if jW s=true then({s with done:=true},0)else((List.range' 1 (s.W.length - 1)).foldl (eR (s.answers.length+1)) (dA {s with answers:=s.answers++ [⟨0,0,0,true⟩]} x.sent x.came true),0):=by
     unfold gD;rw[hk];dsimp only;rw[if_neg];rintro(h|h)
     ·exact h ht
     ·exact p0 h
    have gW:=gb.trans (hW.mono gb.size);rw[hres];exact(aAg _ B N s x W (hlow.later gW) hk ht hC.shape hC.small hle hC.known hC.few).mono (fun e w' hg=>up _ W gW e w' hg)
  have HKEY:=aC key;have H2:=aC hW2;rw[if_neg hm];obtain⟨res,hres⟩:∃res,gD s=res:=⟨_,rfl⟩;rw[hres]at HKEY ⊢;clear key hW2 bL gb hm same up hlow;go_enter func44,ntmps44
  go_wp2_with (go_at_call 95;refine Calls.at_world H2.out ?_;refine HKEY.out.mono ?_;rintro e a7 ⟨r,rfl,hr⟩)
  go_ret;exact hr
theorem wJ(rp:Option Addr)(w:World)(R:Ending->World->Prop)
  (h:∀W1 W2,dM w rp 0=W1->W1.alloc (Obj.cells (([dU 96 w]++ [((44,#[.pointer rp],#[]):iO)]).map eH).toArray 94)=W2->Calls prog 42 #[.pointer rp,.slice (some ⟨W1.heap.size,0,none⟩) 2 2] W2 fun e w'=>(∃r,e= .returned (.int .i64 r))/\R e w') :
  Calls prog 19 #[.pointer rp] w R:=by
 obtain⟨W1,h1⟩:∃W1,dM w rp 0=W1:=⟨_,rfl⟩;obtain⟨W2,h2⟩:∃W2,W1.alloc (Obj.cells (([dU 96 w]++ [((44,#[.pointer rp],#[]):iO)]).map eH).toArray 94)=W2:=⟨_,rfl⟩;have HC:=aC (h W1 W2 h1 h2);have H1:=aC h1;have H2:=aC h2;clear h h1 h2;go_enter func19,ntmps19
 go_wp2_with (first
  |(go_at_call 43;refine(tI rp 0 w).mono ?_;rintro e a1 ⟨rfl,hq⟩;obtain rfl:W1=a1:=H1.out.symm.trans hq.symm;clear hq)
  |(go_at_call 42;refine Calls.at_world H2.out ?_;refine HC.out.mono ?_;rintro e a7 ⟨⟨r,rfl⟩,hr⟩))
 exact hr
theorem aHg(w:World):Calls prog 19 #[.pointer none] w fun e w'=>e= .returned (.int .i64 1)/\Below w.heap.size w w':=by
 refine wJ none w _ (fun W1 W2 h1 h2=> ?_);refine(mZ W1.heap.size 2 W2).mono ?_;rintro e w' ⟨rfl,hb⟩;have g1:=eN w none 0;rw[h1]at g1;have g2:Below W1.heap.size W1 W2:=by rw[<-h2];exact(e_ _ _).alloc (a_ _) _
 have z1:=g1.size;have z2:=g2.size;exact⟨⟨1,rfl⟩,rfl,(g1.trans (g2.mono (by omega))).trans (hb.mono (by omega))⟩
theorem aDu(F:Nat->Prop)(B N:Nat)(s:aE)(w:World)(hx:bK F w B s)(hC:zE N s) :
  Calls prog 19 #[.pointer (some ⟨B,0,none⟩)] w (eK F w B (fJ s)):=by
 refine wJ (some ⟨B,0,none⟩) w _ (fun W1 W2 h1 h2=> ?_);have g1:=eN w (some ⟨B,0,none⟩) 0;have a1:=jE w B 0;rw[h1]at g1 a1;have g2:Below W1.heap.size W1 W2:=by rw[<-h2];exact(e_ _ _).alloc (a_ _) _
 have bL:aD W2 W1.heap.size 94 (([dU 96 w]++ [((44,#[.pointer (some ⟨B,0,none⟩)],#[]):iO)]).map eH).toArray:=by rw[<-h2];exact aD.new W1 _ _
 have z1:=g1.size;have hb:Below w.heap.size w W2:=g1.trans (g2.mono z1);have c1:=a1.below g2;clear a1 h1 h2;have hlow:=hx.low;have hlen:=hC.shape.len;have h2w:=hC.shape.two;obtain⟨x,hk⟩:∃x,s.W[0]?= some x:=⟨_,b_ (by omega)⟩;refine(nO F B W1.heap.size s W2 (hx.later hb) [dU 96 w] [if x.tasks.length=0 then 0 else 9] (44,#[.pointer (some ⟨B,0,none⟩)],#[]) (fJ s) w hb hx (by simp) (by simp) 94 bL ?over ?enter ?test ?bad ?last).mono (fun e w' h=>⟨⟨_,h.1⟩,h⟩)
 case over=>
  intro ho;simp[fJ,ho]
 case enter=>
  intro f hf' args W;simp at hf';rcases hf' with rfl|rfl
  ·exact enters_of func96 (by kernel_rfl) rfl args W
  ·exact enters_of func44 (by kernel_rfl) rfl args W
 case test=>
  intro hd ho j f e hj he hp W hW
  match j,hj,he with
  |0,hj,he=>cases hj;cases he;exact sW F B _ _ 0 s x W ((hx.later hb).later hW) hk (c1.below hW)
  |(n+1),hj,he=>simp at hj
 case bad=>
  intro hd ho j e he hne hp;have h0:dI s=0:=by simp[dI,hd,ho]
  match j,he with
  |0,he=>
   cases he;have ht:x.tasks≠ []:=fun h=>by rw[h]at hne;simp at hne
   have ht':¬x.tasks.length=0:=fun h=>ht (List.length_eq_zero_iff.1 h)
   rw[if_neg ht'];unfold fJ;rw[if_neg (by rw[h0];simp)];split
   ·unfold fP
    rw[hk];dsimp only;rw[if_pos (.inr ht)]
   ·unfold gD
    rw[hk];dsimp only;rw[if_pos (.inl ht)]
  |(n+1),he=>simp at he
 case last=>
  intro hd ho hp W hW;have h0:dI s=0:=by simp[dI,hd,ho]
  have p0:=hp 0 _ (by simp) rfl;have q0:x.tasks=[]:=by
   by_cases h:x.tasks.length=0
   ·exact List.length_eq_zero_iff.1 h
   ·rw[if_neg h]at p0;exact absurd p0 (by omega)
  have hres:fJ s=if s.mode=1 then fP s else gD s:=by
   unfold fJ;rw[if_neg (by rw[h0];simp)]
  rw[hres];have hbW:Below w.heap.size w W:=hb.trans (hW.mono hb.size);exact aEt _ B N s x W (hlow.later hbW) hC hk q0
end Go.Proofs.YtfanaanofjhlkaaGreatDoor
