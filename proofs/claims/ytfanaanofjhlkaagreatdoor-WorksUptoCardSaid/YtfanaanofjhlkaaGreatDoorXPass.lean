import Derived.Test.YtfanaanofjhlkaaGreatDoorXMsgs
import Derived.Test.YtfanaanofjhlkaaGreatDoorXTwice
import Derived.Test.YtfanaanofjhlkaaGreatDoorXToken2
import Derived.Test.YtfanaanofjhlkaaGreatDoorXCome
import Derived.Test.YtfanaanofjhlkaaGreatDoorRefPass
set_option maxHeartbeats 16000000
set_option maxRecDepth 100000
namespace Go.Proofs.YtfanaanofjhlkaaGreatDoor
open Go Go.RowKit Tryz
theorem sJ(rp:Option Addr)(i:Int)(w:World):Calls prog 90 #[.pointer rp,.int .i64 i] w fun e w'=>e= .returned (.func (.func 154) #[] #[.pointer (some ⟨w.heap.size,0,none⟩),.pointer (some ⟨w.heap.size+1,0,none⟩)])/\w'=dM w rp i:=by
 go_enter func90,ntmps90
 go_wp2_with fail
 go_ret;exact⟨rfl,rfl⟩
theorem aEi(rp:Option Addr)(i:Int)(w:World):Calls prog 123 #[.pointer rp,.int .i64 i] w fun e w'=>e= .returned (.func (.func 178) #[] #[.pointer (some ⟨w.heap.size,0,none⟩),.pointer (some ⟨w.heap.size+1,0,none⟩)])/\w'=dM w rp i:=by
 go_enter func123,ntmps123
 go_wp2_with fail
 go_ret;exact⟨rfl,rfl⟩
theorem aFa(rp:Option Addr)(i:Int)(w:World):Calls prog 124 #[.pointer rp,.int .i64 i] w fun e w'=>e= .returned (.func (.func 179) #[] #[.pointer (some ⟨w.heap.size,0,none⟩),.pointer (some ⟨w.heap.size+1,0,none⟩)])/\w'=dM w rp i:=by
 go_enter func124,ntmps124
 go_wp2_with fail
 go_ret;exact⟨rfl,rfl⟩
theorem aBb(rp:Option Addr)(i:Int)(w:World):Calls prog 89 #[.pointer rp,.int .i64 i] w fun e w'=>e= .returned (.func (.func 151) #[] #[.pointer (some ⟨w.heap.size,0,none⟩),.pointer (some ⟨w.heap.size+1,0,none⟩)])/\w'=dM w rp i:=by
 go_enter func89,ntmps89
 go_wp2_with fail
 go_ret;exact⟨rfl,rfl⟩
abbrev dU(f:Nat)(W:World):iO:=(f,#[],#[.pointer (some ⟨W.heap.size,0,none⟩),.pointer (some ⟨W.heap.size+1,0,none⟩)])
abbrev pT(f:Nat)(W:World):iO:=(f,#[],#[.pointer (some ⟨W.heap.size+1,0,none⟩),.pointer (some ⟨W.heap.size,0,none⟩)])
theorem yB(rp:Option Addr)(i:Int)(w:World)(R:Ending->World->Prop)
  (h:∀W1 W2 W3,dM w rp i=W1->dM W1 rp i=W2->W2.alloc (Obj.cells (([dU 154 w]++ [dU 178 W1]).map eH).toArray 94)=W3->Calls prog 42 #[.pointer rp,.slice (some ⟨W2.heap.size,0,none⟩) 2 2] W3 fun e w'=>(∃r,e= .returned (.int .i64 r))/\R e w') :
  Calls prog 58 #[.pointer rp,.int .i64 i] w R:=by
 obtain⟨W1,h1⟩:∃W1,dM w rp i=W1:=⟨_,rfl⟩;obtain⟨W2,h2⟩:∃W2,dM W1 rp i=W2:=⟨_,rfl⟩;obtain⟨W3,h3⟩:∃W3,W2.alloc (Obj.cells (([dU 154 w]++ [dU 178 W1]).map eH).toArray 94)=W3:=⟨_,rfl⟩;have HC:=aC (h W1 W2 W3 h1 h2 h3);have H1:=aC h1;have H2:=aC h2;have H3:=aC h3;clear h h1 h2 h3;go_enter func58,ntmps58
 go_wp2_with (first
  |(go_at_call 90;refine(sJ rp i w).mono ?_;rintro e a1 ⟨rfl,hq⟩;obtain rfl:W1=a1:=H1.out.symm.trans hq.symm;clear hq)
  |(go_at_call 123;refine(aEi rp i W1).mono ?_;rintro e a1 ⟨rfl,hq⟩;obtain rfl:W2=a1:=H2.out.symm.trans hq.symm;clear hq)
  |(go_at_call 42;refine Calls.at_world H3.out ?_;refine HC.out.mono ?_;rintro e a7 ⟨⟨r,rfl⟩,hr⟩))
 exact hr
theorem aIe(i:Int)(w:World):Calls prog 58 #[.pointer none,.int .i64 i] w fun e w'=>e= .returned (.int .i64 1)/\Below w.heap.size w w':=by
 refine yB none i w _ (fun W1 W2 W3 h1 h2 h3=> ?_);refine(mZ W2.heap.size 2 W3).mono ?_;rintro e w' ⟨rfl,hb⟩;have g1:=eN w none i;have g2:=eN W1 none i;rw[h1]at g1;rw[h2]at g2;have g3:Below W2.heap.size W2 W3:=by rw[<-h3];exact(e_ _ _).alloc (a_ _) _
 have z1:=g1.size;have z2:=g2.size;have z3:=g3.size;exact⟨⟨1,rfl⟩,rfl,((g1.trans (g2.mono (by omega))).trans (g3.mono (by omega))).trans (hb.mono (by omega))⟩
theorem wI(rp:Option Addr)(i:Int)(w:World)(R:Ending->World->Prop)
  (h:∀W1 W2 W3,dM w rp i=W1->dM W1 rp i=W2->W2.alloc (Obj.cells (([dU 154 w]++ [dU 179 W1]).map eH).toArray 94)=W3->Calls prog 42 #[.pointer rp,.slice (some ⟨W2.heap.size,0,none⟩) 2 2] W3 fun e w'=>(∃r,e= .returned (.int .i64 r))/\R e w') :
  Calls prog 59 #[.pointer rp,.int .i64 i] w R:=by
 obtain⟨W1,h1⟩:∃W1,dM w rp i=W1:=⟨_,rfl⟩;obtain⟨W2,h2⟩:∃W2,dM W1 rp i=W2:=⟨_,rfl⟩;obtain⟨W3,h3⟩:∃W3,W2.alloc (Obj.cells (([dU 154 w]++ [dU 179 W1]).map eH).toArray 94)=W3:=⟨_,rfl⟩;have HC:=aC (h W1 W2 W3 h1 h2 h3);have H1:=aC h1;have H2:=aC h2;have H3:=aC h3;clear h h1 h2 h3;go_enter func59,ntmps59
 go_wp2_with (first
  |(go_at_call 90;refine(sJ rp i w).mono ?_;rintro e a1 ⟨rfl,hq⟩;obtain rfl:W1=a1:=H1.out.symm.trans hq.symm;clear hq)
  |(go_at_call 124;refine(aFa rp i W1).mono ?_;rintro e a1 ⟨rfl,hq⟩;obtain rfl:W2=a1:=H2.out.symm.trans hq.symm;clear hq)
  |(go_at_call 42;refine Calls.at_world H3.out ?_;refine HC.out.mono ?_;rintro e a7 ⟨⟨r,rfl⟩,hr⟩))
 exact hr
theorem aGe(i:Int)(w:World):Calls prog 59 #[.pointer none,.int .i64 i] w fun e w'=>e= .returned (.int .i64 1)/\Below w.heap.size w w':=by
 refine wI none i w _ (fun W1 W2 W3 h1 h2 h3=> ?_);refine(mZ W2.heap.size 2 W3).mono ?_;rintro e w' ⟨rfl,hb⟩;have g1:=eN w none i;have g2:=eN W1 none i;rw[h1]at g1;rw[h2]at g2;have g3:Below W2.heap.size W2 W3:=by rw[<-h3];exact(e_ _ _).alloc (a_ _) _
 have z1:=g1.size;have z2:=g2.size;have z3:=g3.size;exact⟨⟨1,rfl⟩,rfl,((g1.trans (g2.mono (by omega))).trans (g3.mono (by omega))).trans (hb.mono (by omega))⟩
theorem xK(rp:Option Addr)(i:Int)(w:World)(R:Ending->World->Prop)
  (h:∀W1 W2 W3,dM w rp i=W1->dM W1 rp i=W2->W2.alloc (Obj.cells (([pT 110 w]++ [dU 151 W1]).map eH).toArray 94)=W3->Calls prog 42 #[.pointer rp,.slice (some ⟨W2.heap.size,0,none⟩) 2 2] W3 fun e w'=>(∃r,e= .returned (.int .i64 r))/\R e w') :
  Calls prog 40 #[.pointer rp,.int .i64 i] w R:=by
 obtain⟨W1,h1⟩:∃W1,dM w rp i=W1:=⟨_,rfl⟩;obtain⟨W2,h2⟩:∃W2,dM W1 rp i=W2:=⟨_,rfl⟩;obtain⟨W3,h3⟩:∃W3,W2.alloc (Obj.cells (([pT 110 w]++ [dU 151 W1]).map eH).toArray 94)=W3:=⟨_,rfl⟩;have HC:=aC (h W1 W2 W3 h1 h2 h3);have H1:=aC h1;have H2:=aC h2;have H3:=aC h3;clear h h1 h2 h3;go_enter func40,ntmps40
 go_wp2_with (first
  |(go_at_call 51;refine(mU rp i w).mono ?_;rintro e a1 ⟨rfl,hq⟩;obtain rfl:W1=a1:=H1.out.symm.trans hq.symm;clear hq)
  |(go_at_call 89;refine(aBb rp i W1).mono ?_;rintro e a1 ⟨rfl,hq⟩;obtain rfl:W2=a1:=H2.out.symm.trans hq.symm;clear hq)
  |(go_at_call 42;refine Calls.at_world H3.out ?_;refine HC.out.mono ?_;rintro e a7 ⟨⟨r,rfl⟩,hr⟩))
 exact hr
theorem aHo(i:Int)(w:World):Calls prog 40 #[.pointer none,.int .i64 i] w fun e w'=>e= .returned (.int .i64 1)/\Below w.heap.size w w':=by
 refine xK none i w _ (fun W1 W2 W3 h1 h2 h3=> ?_);refine(mZ W2.heap.size 2 W3).mono ?_;rintro e w' ⟨rfl,hb⟩;have g1:=eN w none i;have g2:=eN W1 none i;rw[h1]at g1;rw[h2]at g2;have g3:Below W2.heap.size W2 W3:=by rw[<-h3];exact(e_ _ _).alloc (a_ _) _
 have z1:=g1.size;have z2:=g2.size;have z3:=g3.size;exact⟨⟨1,rfl⟩,rfl,((g1.trans (g2.mono (by omega))).trans (g3.mono (by omega))).trans (hb.mono (by omega))⟩
theorem oE{s:aE}(hd:s.done=false)(ho:s.over=false)(t:Int):eP s t=if t < 0\/(s.way.length:Int)<=t then 10 else 0:=by
 have:dI s=0:=by simp[dI,hd,ho]
 unfold eP;rw[this];by_cases h:t < 0\/(s.way.length:Int)<=t
 ·rw[if_pos ⟨rfl,h⟩,if_pos h]
 ·rw[if_neg (fun h'=>h h'.2),if_neg h]
theorem sX{s:aE}(h:dI s≠0)(t:Int):eP s t=dI s:=if_neg (fun h'=>h h'.1)
theorem aFi(F:Nat->Prop)(B:Nat)(s:aE)(i:Int)(w:World)(hx:bK F w B s)(hs:cX s) :
  Calls prog 58 #[.pointer (some ⟨B,0,none⟩),.int .i64 i] w (eK F w B (fX s i)):=by
 refine yB (some ⟨B,0,none⟩) i w _ (fun W1 W2 W3 h1 h2 h3=> ?_);have g1:=eN w (some ⟨B,0,none⟩) i;have g2:=eN W1 (some ⟨B,0,none⟩) i;have a1:=jE w B i;have a2:=jE W1 B i;rw[h1]at g1 a1;rw[h2]at g2 a2;have g3:Below W2.heap.size W2 W3:=by rw[<-h3];exact(e_ _ _).alloc (a_ _) _
 have bL:aD W3 W2.heap.size 94 (([dU 154 w]++ [dU 178 W1]).map eH).toArray:=by rw[<-h3];exact aD.new W2 _ _
 have z1:=g1.size;have z2:=g2.size;have k2:Below W1.heap.size W1 W3:=g2.trans (g3.mono z2);have hb:Below w.heap.size w W3:=g1.trans (k2.mono z1);have c1:=a1.below k2;have c2:=a2.below g3;clear a1 a2 h1 h2 h3 g1 g2 k2;have hlow:=hx.low;refine(nO F B W2.heap.size s W3 (hx.later hb) [dU 154 w] [if i < 0\/(s.way.length:Int)<=i then 10 else 0] (dU 178 W1) (fX s i) w hb hx (by simp) (by simp) 94 bL ?over ?enter ?test ?bad ?last).mono (fun e w' h=>⟨⟨_,h.1⟩,h⟩)
 case over=>
  intro ho;simp[fX,sX ho,ho]
 case enter=>
  intro f hf' args W;simp at hf';rcases hf' with rfl|rfl
  ·exact enters_of func154 (by kernel_rfl) rfl args W
  ·exact enters_of func178 (by kernel_rfl) rfl args W
 case test=>
  intro hd ho j f e hj he hp W hW
  match j,hj,he with
  |0,hj,he=>cases hj;cases he;exact sI F B _ _ s i W ((hx.later hb).later hW) (c1.below hW)
  |(n+1),hj,he=>simp at hj
 case bad=>
  intro hd ho j e he hne hp;have wi:=oE hd ho i
  match j,he with
  |0,he=>cases he;simp only[fX,wi,if_pos hne]
  |(n+1),he=>simp at he
 case last=>
  intro hd ho hp W hW;have p0:=hp 0 _ (by simp) rfl;have wi:=oE hd ho i;rw[p0]at wi;obtain⟨q0,q1⟩:=oG wi;obtain⟨k,rfl⟩:=Int.eq_ofNat_of_zero_le q0;obtain⟨m,hm⟩:∃m,s.way[k]?= some m:=⟨_,b_ (by omega)⟩;have hres:fX s (k:Int)=({s with way:=s.way.take k++s.way.drop (k+1)},0):=by simp[fX,wi]
  rw[hres];have hbW:Below w.heap.size w W:=hb.trans (hW.mono hb.size);exact aGa _ B _ _ k m s W (hlow.later hbW) hm (by have:=hs.way;omega) (c2.below hW)
theorem aDj(F:Nat->Prop)(B:Nat)(s:aE)(i:Int)(w:World)(hx:bK F w B s)(hs:cX s) :
  Calls prog 59 #[.pointer (some ⟨B,0,none⟩),.int .i64 i] w (eK F w B (fS s i)):=by
 refine wI (some ⟨B,0,none⟩) i w _ (fun W1 W2 W3 h1 h2 h3=> ?_);have g1:=eN w (some ⟨B,0,none⟩) i;have g2:=eN W1 (some ⟨B,0,none⟩) i;have a1:=jE w B i;have a2:=jE W1 B i;rw[h1]at g1 a1;rw[h2]at g2 a2;have g3:Below W2.heap.size W2 W3:=by rw[<-h3];exact(e_ _ _).alloc (a_ _) _
 have bL:aD W3 W2.heap.size 94 (([dU 154 w]++ [dU 179 W1]).map eH).toArray:=by rw[<-h3];exact aD.new W2 _ _
 have z1:=g1.size;have z2:=g2.size;have k2:Below W1.heap.size W1 W3:=g2.trans (g3.mono z2);have hb:Below w.heap.size w W3:=g1.trans (k2.mono z1);have c1:=a1.below k2;have c2:=a2.below g3;clear a1 a2 h1 h2 h3 g1 g2 k2;have hlow:=hx.low;refine(nO F B W2.heap.size s W3 (hx.later hb) [dU 154 w] [if i < 0\/(s.way.length:Int)<=i then 10 else 0] (dU 179 W1) (fS s i) w hb hx (by simp) (by simp) 94 bL ?over ?enter ?test ?bad ?last).mono (fun e w' h=>⟨⟨_,h.1⟩,h⟩)
 case over=>
  intro ho;simp[fS,sX ho,ho]
 case enter=>
  intro f hf' args W;simp at hf';rcases hf' with rfl|rfl
  ·exact enters_of func154 (by kernel_rfl) rfl args W
  ·exact enters_of func179 (by kernel_rfl) rfl args W
 case test=>
  intro hd ho j f e hj he hp W hW
  match j,hj,he with
  |0,hj,he=>cases hj;cases he;exact sI F B _ _ s i W ((hx.later hb).later hW) (c1.below hW)
  |(n+1),hj,he=>simp at hj
 case bad=>
  intro hd ho j e he hne hp;have wi:=oE hd ho i
  match j,he with
  |0,he=>cases he;simp only[fS,wi,if_pos hne]
  |(n+1),he=>simp at he
 case last=>
  intro hd ho hp W hW;have p0:=hp 0 _ (by simp) rfl;have wi:=oE hd ho i;rw[p0]at wi;obtain⟨q0,q1⟩:=oG wi;obtain⟨k,rfl⟩:=Int.eq_ofNat_of_zero_le q0;obtain⟨m,hm⟩:∃m,s.way[k]?= some m:=⟨_,b_ (by omega)⟩;have hres:fS s (k:Int)=(cB s m,0):=by simp[fS,wi,hm]
  rw[hres];have hbW:Below w.heap.size w W:=hb.trans (hW.mono hb.size);exact aCz _ B _ _ k m s W (hlow.later hbW) hm (by have:=hs.way;omega) (c2.below hW)
abbrev pX(W:World)(i:Int):World:=W.alloc (Obj.cells #[.int .i64 i] 3)
theorem xZ(W:World)(i:Int):Below W.heap.size W (pX W i):=(e_ _ _).alloc (a_ _) _
theorem aBy(i:Int)(w:World):Calls prog 86 #[.int .i64 i] w fun e w'=>e= .returned (.func (.func 146) #[] #[.pointer (some ⟨w.heap.size,0,none⟩)])/\w'=pX w i:=by
 go_enter func86,ntmps86
 go_wp2_with fail
 go_ret;exact⟨rfl,rfl⟩
theorem vG(rp:Option Addr)(i:Int)(w:World):Calls prog 87 #[.pointer rp,.int .i64 i] w fun e w'=>e= .returned (.func (.func 147) #[] #[.pointer (some ⟨w.heap.size,0,none⟩),.pointer (some ⟨w.heap.size+1,0,none⟩)])/\w'=dM w rp i:=by
 go_enter func87,ntmps87
 go_wp2_with fail
 go_ret;exact⟨rfl,rfl⟩
theorem aBd(rp:Option Addr)(i:Int)(w:World):Calls prog 88 #[.pointer rp,.int .i64 i] w fun e w'=>e= .returned (.func (.func 148) #[] #[.pointer (some ⟨w.heap.size,0,none⟩),.pointer (some ⟨w.heap.size+1,0,none⟩)])/\w'=dM w rp i:=by
 go_enter func88,ntmps88
 go_wp2_with fail
 go_ret;exact⟨rfl,rfl⟩
theorem aBs(Bw:Nat)(i:Int)(w:World)(h:aD w Bw 3 #[.int .i64 i]):Calls prog 146 #[.pointer (some ⟨Bw,0,none⟩)] w fun e w'=>e= .returned (.int .i64 (if i=0 then 9 else 0))/\Below w.heap.size w w':=by
 have a0:=h.cell (o:=0) rfl;clear h;obtain⟨res,hres⟩:∃res:Int,(if i=0 then(9:Int)else 0)=res:=⟨_,rfl⟩;rw[hres];by_cases hi:i=0
 ·obtain rfl:(9:Int)=res:=by rw[<-hres,if_pos hi]
  have he:(i==0)=true:=by simp[hi]
  clear hi hres;go_enter func146,ntmps146
  go_wp2_with fail
  go_ret;exact⟨rfl,e_ _ _⟩
 ·obtain rfl:(0:Int)=res:=by rw[<-hres,if_neg hi]
  have he:(i==0)=false:=by rw[g_];exact hi
  clear hi hres;go_enter func146,ntmps146
  go_wp2_with fail
  go_ret;exact⟨rfl,e_ _ _⟩
theorem vC(F:Nat->Prop)(B Br Bw k:Nat)(s:aE)(x:cF)(w:World)(hx:bK F w B s)(hk:s.W[k]?= some x)(hh:fF w Br Bw B k) :
  Calls prog 147 #[.pointer (some ⟨Br,0,none⟩),.pointer (some ⟨Bw,0,none⟩)] w fun e w'=>e= .returned (.int .i64 (if s.mode=1/\x.has=true then 0 else 9))/\Below w.heap.size w w':=by
 obtain⟨part,kv,yv,g,c,M,T,xs,y,-,h,hy,-,ht,hc,hkl⟩:=nE hx hk;have b3:w.cell? ⟨B,4,none⟩=some (.slice (some ⟨g,0,none⟩) xs.length c):=h.box.cell (o:=4) rfl;have htk:=h.tat k y x hy hk;have a7:=h.xcell hy 7 _ rfl;have r0:=hh.1.cell (o:=0) rfl;have i0:=hh.2.cell (o:=0) rfl;have j1:(0:Int)<=(k:Int):=by omega
 have j2:(k:Int) < (xs.length:Int):=by omega
 obtain⟨res,hres⟩:∃res:Int,(if s.mode=1/\x.has=true then(0:Int)else 9)=res:=⟨_,rfl⟩;rw[hres];cases hq:y.tok with
 |none=>
  rw[hq]at htk a7;obtain rfl:(9:Int)=res:=by rw[<-hres,if_neg];intro q;have:=htk q.1;rw[q.2]at this;cases this
  have a7':w.cell? ⟨g,k*8+7,none⟩=some (.pointer none):=a7;clear hh ht h hc htk a7 hres hq;go_enter func147,ntmps147
  go_upto_region 1 with fail
  go_quiet (fail)
  go_wp2_with fail
  go_ret;exact⟨rfl,below_drewN (e_ _ _) _⟩
 |some q=>
  rw[hq]at htk a7;obtain rfl:(0:Int)=res:=by rw[<-hres,if_pos ⟨htk.1.2,htk.1.1⟩]
  have a7':w.cell? ⟨g,k*8+7,none⟩=some (.pointer (some ⟨q,0,none⟩)):=a7;clear hh ht h hc htk a7 hres hq;go_enter func147,ntmps147
  go_upto_region 1 with fail
  go_quiet (fail)
  go_wp2_with fail
  go_ret;exact⟨rfl,below_drewN (e_ _ _) _⟩
theorem aJu(s:aE)(k:Nat)(x:cF)(m:aI)(h:¬(m.kind=2\/m.kind=4)):aR {s with W:=s.W.set k x} m={aR s m with W:=(aR s m).W.set k x}:=by
 unfold aR cB;simp only[if_neg h];split<;>rfl
theorem zJ{part:Nat->Nat}{w:World}{B M k gw wc n:Nat}{s:aE}{kv yv:Value}{xs:List XW}{x:XW}{y:cF}(h:aQ part w B s kv (.slice (some ⟨gw,0,none⟩) n wc) yv M xs)(hx:xs[k]?= some x)(hy:s.W[k]?= some y)(hm:s.mode=1)(hh:y.has=true)(hs:0<=y.sent/\y.sent<=1000000000)(hc:0<=y.came/\y.came<=1000000000)(hn: -100000000000000000<=y.token.count/\y.token.count<=100000000000000000) :
  Calls prog 150 #[.pointer (some ⟨gw,k*8,none⟩)] w fun e w'=>∃v,e= .returned v/\(v= .agg #[.int .i64 (y.token.count+(y.sent - y.came)),.bool (y.token.black||y.black),.bool (k==0&&s.around)]/\Below w.heap.size w w'):=by
 have hxw:=h.wat k x y hx hy;have htk:=h.tat k x y hx hy;cases hq:x.tok with
 |none=>rw[hq]at htk;have:=htk hm;rw[hh]at this;cases this
 |some q=>
  rw[hq]at htk;have a7:w.cell? ⟨gw,k*8+7,none⟩=some (.pointer (some ⟨q,0,none⟩)):=by
   have:=h.xcell hx 7 _ rfl;rwa [hq]at this
  exact aIq gw k q y.token.count y.sent y.came y.token.black (k==0&&s.around) y.black w (by rw[<-hxw.1.sent];exact h.xcell hx 4 _ rfl) (by rw[<-hxw.1.came];exact h.xcell hx 5 _ rfl) (by rw[<-hxw.1.black];exact h.xcell hx 6 _ rfl) a7 htk.2.1 (h.wrow.1.lt gw rfl).2 hs hc hn
theorem aAs(F:Nat->Prop)(B Br Bw k N:Nat)(s:aE)(x:cF)(w:World)(hx:bK F w B s)(hk:s.W[k]?= some x)(hk0:k≠0)(hm:s.mode=1)(hhas:x.has=true)(hs:cX s)(hN:dS N s)(hN':N<=90000000)(hkn:iF s)(hcn: -100000000000000000<=x.token.count/\x.token.count<=100000000000000000)
  (hh:fF w Br Bw B k) (hF:¬F Br/\¬F Bw) :
  Calls prog 148 #[.pointer (some ⟨Br,0,none⟩),.pointer (some ⟨Bw,0,none⟩)] w (eK F w B (aR {s with W:=s.W.set k {x with black:=false,has:=false}} {aH with src:=(k:Int),dst:=(k:Int) - 1,kind:=5,count:=x.token.count+x.sent - x.came,black:=x.token.black||x.black},0)):=by
 obtain⟨part,kv,yv,g,c,M,T,xs,y,hpF,h,hy,-,-,hc,hkl⟩:=nE hx hk;have hkW:=(c_.1 hk).1;have b3:w.cell? ⟨B,4,none⟩=some (.slice (some ⟨g,0,none⟩) xs.length c):=h.box.cell (o:=4) rfl;have r0:=hh.1.cell (o:=0) rfl;have i0:=hh.2.cell (o:=0) rfl;have j1:(0:Int)<=(k:Int):=by omega
 have j2:(k:Int) < (xs.length:Int):=by omega
 have hxm:=d_ hk;have hsent:=hN.sent x hxm;have hgot:=hN.got x hxm;obtain⟨ls,hls⟩:∃ls,s.links[k]?= some ls:=⟨_,b_ (by rw[hs.llen];exact hkW)⟩;have hlm:=d_ hls;obtain⟨l,hl⟩:∃l,ls[k - 1]?= some l:=⟨_,b_ (by rw[hs.lrow ls hlm];omega)⟩;have hlmm:=d_ hl;have hall:=hN.all ls hlm l hlmm;have hknl:=hkn ls hlm l hlmm;have hway:=hs.way;have h5:=h.five;have hwl:=h.wlen;have kw:IntKind.i64.wrap ((k:Int) - 1)=(k:Int) - 1:=IntWalk.i64_in _ (by omega);have hBrl:=hh.1.lt;have hBwl:=hh.2.lt;have hBl:=h.box.lt;have hgl:=(h.wrow.1.lt g rfl).2;have HTD:Hid (∀U,(U=w\/U=w.drew)->Calls prog 150 #[.pointer (some ⟨g,k*8,none⟩)] U fun e w'=>∃v,e= .returned v/\(v= .agg #[.int .i64 (x.token.count+(x.sent - x.came)),.bool (x.token.black||x.black),.bool (k==0&&s.around)]/\Below w.heap.size w w')):=fun U hU=>by
  have gU:Below w.heap.size w U:=by
   rcases hU with rfl|rfl
   ·exact e_ _ _
   ·exact(e_ _ _).drew
  obtain⟨h7,-⟩:=h.later gU;refine(zJ h7 hy hk hm hhas (by omega) (by omega) hcn).mono ?_;rintro e w' ⟨v,rfl,rfl,hb⟩;exact⟨_,rfl,rfl,gU.trans (hb.mono gU.size)⟩
 have HSD:Hid (∀U,Below w.heap.size w U->Calls prog 149 #[.pointer (some ⟨B,0,none⟩),.int .i64 (k:Int),.int .i64 ((k:Int) - 1),.agg #[.int .i64 (x.token.count+(x.sent - x.came)),.bool (x.token.black||x.black),.bool (k==0&&s.around)]] U fun e w'=>∃v,e= .returned v/\(v= .tuple #[]/\eK F w B (aR {s with W:=s.W.set k {x with black:=false,has:=false}} {aH with src:=(k:Int),dst:=(k:Int) - 1,kind:=5,count:=x.token.count+x.sent - x.came,black:=x.token.black||x.black},0) (.returned (.int .i64 0)) w'/\w'.cell? ⟨B,4,none⟩=some (.slice (some ⟨g,0,none⟩) xs.length c)/\w'.cell? ⟨Br,0,none⟩=some (.pointer (some ⟨B,0,none⟩))/\w'.cell? ⟨Bw,0,none⟩=some (.int .i64 k))):=fun U hU=>by
  obtain⟨h7,hm7⟩:=h.later hU;have hd:(k:Int) - 1=((k - 1:Nat):Int):=by omega
  rw[hd];refine(wR k (k - 1) (x.token.count+(x.sent - x.came)) (x.token.black||x.black) (k==0&&s.around) h7 hk hls hl (by omega) hknl (by omega) (by omega)).mono ?_;rintro e w' ⟨v,rfl,rfl,part',yv',xs',h8,hm8⟩;obtain⟨h9,h10⟩:=(hm7.trans hm8).okX h8 hpF;refine⟨_,rfl,rfl,⟨rfl,?_,h10⟩,h8.box.cell (o:=4) rfl,(h10.cell (p:=⟨Br,0,none⟩) hBrl hF.1).trans r0,(h10.cell (p:=⟨Bw,0,none⟩) hBwl hF.2).trans i0⟩;have e1:x.token.count+x.sent - x.came=x.token.count+(x.sent - x.came):=by omega
  rw[e1];exact h9
 have HST:Hid (∀U,Below w.heap.size w U->U.cell? ⟨B,4,none⟩=some (.slice (some ⟨g,0,none⟩) xs.length c)/\U.cell? ⟨Br,0,none⟩=some (.pointer (some ⟨B,0,none⟩))/\U.cell? ⟨Bw,0,none⟩=some (.int .i64 k)):=fun U hU=>⟨(hU.cell (p:=⟨B,4,none⟩) hBl).trans b3,(hU.cell (p:=⟨Br,0,none⟩) hBrl).trans r0,(hU.cell (p:=⟨Bw,0,none⟩) hBwl).trans i0⟩
 obtain⟨tc,htc⟩:∃tc,x.token.count+(x.sent - x.came)=tc:=⟨_,rfl⟩;obtain⟨tb,htb⟩:∃tb,(x.token.black||x.black)=tb:=⟨_,rfl⟩;obtain⟨tr,htr⟩:∃tr,(k==0&&s.around)=tr:=⟨_,rfl⟩;rw[htc,htb,htr]at HTD;rw[htc,htb,htr]at HSD;rw[htb];clear h hh hc hcn hsent hgot hls hl;go_enter func148,ntmps148
 go_upto_region 1 with fail
 go_region_held3 (fun U=>U.cell? ⟨B,4,none⟩=some (.slice (some ⟨g,0,none⟩) xs.length c)/\U.cell? ⟨Br,0,none⟩=some (.pointer (some ⟨B,0,none⟩))/\U.cell? ⟨Bw,0,none⟩=some (.int .i64 k))
  (first|assumption|(exact HST.out _ (by assumption))|(exact HST.out _ (e_ _ _))|(exact HST.out _ (e_ _ _).drew))
  (first
  |(go_at_call 150;refine(HTD.out _ (by first|exact .inl rfl|exact .inr rfl)).mono ?_;rintro e w8 ⟨v8,rfl,rfl,hb8⟩)
  |(go_at_call 149;refine(HSD.out _ (by first|assumption)).mono ?_;rintro e w9 ⟨v9,rfl,rfl,hres,hst9⟩))
 all_goals
  go_wp2_with fail
  go_ret;exact hres
end Go.Proofs.YtfanaanofjhlkaaGreatDoor
