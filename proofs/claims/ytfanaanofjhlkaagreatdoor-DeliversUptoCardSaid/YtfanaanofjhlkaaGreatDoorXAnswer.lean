import Derived.Test.YtfanaanofjhlkaaGreatDoorXYoung
import Derived.Test.YtfanaanofjhlkaaGreatDoorRefWork2
import Derived.Test.YtfanaanofjhlkaaGreatDoorXAgain
import Derived.StillTailTactics
import Derived.Test.YtfanaanofjhlkaaGreatDoorRefMessages
import Derived.Test.YtfanaanofjhlkaaGreatDoorXPut
import Derived.Lib.SliceRun
import Derived.Test.YtfanaanofjhlkaaGreatDoorStoreM
import Derived.Test.YtfanaanofjhlkaaGreatDoorRefCame3
set_option maxHeartbeats 16000000
set_option maxRecDepth 100000
namespace Go.Proofs.YtfanaanofjhlkaaGreatDoor
open Go Go.RowKit Go.Maps Tryz
theorem rL(v:Value)(w:World):Calls prog 45 #[.pointer none,v] w fun e w'=>e= .returned (.int .i64 1)/\w'=w:=by
 go_enter func45,ntmps45
 go_wp2_with fail
 go_ret;exact⟨rfl,rfl⟩
theorem rD(B:Nat)(v:Value)(w:World)(R:Int->World->Prop)(h:Calls prog 95 #[v] w fun e w'=>∃r,e= .returned (.int .i64 r)/\R r w') :
  Calls prog 45 #[.pointer (some ⟨B,0,none⟩),v] w fun e w'=>∃r,e= .returned (.int .i64 r)/\R r w':=by
 have H:=aC h;clear h;go_enter func45,ntmps45
 go_wp2_with (go_at_call 95;refine H.out.mono ?_;rintro e w1 ⟨r,rfl,hr⟩)
 go_ret;exact⟨r,rfl,hr⟩
theorem aEd(Bs:Nat)(v:Value)(w:World)(R:Int->World->Prop)(hb:aD w Bs 148 #[v])(h:Calls prog 95 #[v] w fun e w'=>∃r,e= .returned (.int .i64 r)/\R r w') :
  Calls prog 94 #[.pointer (some ⟨Bs,0,none⟩)] w fun e w'=>∃r,e= .returned (.int .i64 r)/\R r w':=by
 have H:=aC h;have b0:=hb.cell (o:=0) rfl;clear h hb;go_enter func94,ntmps94
 go_wp2_with (go_at_call 95;refine H.out.mono ?_;rintro e w1 ⟨r,rfl,hr⟩)
 go_ret;exact⟨r,rfl,hr⟩
theorem mZ(g n:Nat)(w:World):Calls prog 42 #[.pointer none,.slice (some ⟨g,0,none⟩) n n] w fun e w'=>e= .returned (.int .i64 1)/\Below w.heap.size w w':=by
 go_enter func42,ntmps42
 go_wp2_with (go_at_call 45;refine(rL _ _).mono ?_;rintro e w1 ⟨rfl,rfl⟩)
 go_ret;exact⟨rfl,((e_ _ _).alloc (a_ _) _).alloc (by simp) _⟩
theorem wG(F:Nat->Prop)(B g n:Nat)(s:aE)(w:World)(hx:bK F w B s)(R:Int->World->Prop)(h:s.done=false->s.over=false->∀U,Below w.heap.size w U->Calls prog 95 #[.slice (some ⟨g,0,none⟩) n n] U fun e w'=>∃r,e= .returned (.int .i64 r)/\R r w') :
  Calls prog 42 #[.pointer (some ⟨B,0,none⟩),.slice (some ⟨g,0,none⟩) n n] w fun e w'=>∃r,e= .returned (.int .i64 r)/\((dI s≠0/\r=dI s/\Below w.heap.size w w')\/(dI s=0/\R r w')):=by
 obtain⟨V,hV⟩:∃V,(w.alloc (Obj.cells #[.slice (some ⟨g,0,none⟩) n n] 148)).alloc (Obj.cells #[.func (.func 92) #[.pointer (some ⟨B,0,none⟩)] #[],.func (.func 93) #[.pointer (some ⟨B,0,none⟩)] #[],.func (.func 94) #[] #[.pointer (some ⟨w.heap.size,0,none⟩)]] 94)=V:=⟨_,rfl⟩;have hbV:Below w.heap.size w V:=by rw[<-hV];exact((e_ _ _).alloc (a_ _) _).alloc (by simp) _
 have bS:aD V w.heap.size 148 #[.slice (some ⟨g,0,none⟩) n n]:=by rw[<-hV];exact(aD.new w _ _).alloc _
 have bL:aD V (w.heap.size+1) 94 #[.func (.func 92) #[.pointer (some ⟨B,0,none⟩)] #[],.func (.func 93) #[.pointer (some ⟨B,0,none⟩)] #[],.func (.func 94) #[] #[.pointer (some ⟨w.heap.size,0,none⟩)]]:=by rw[<-hV];exact fM _ _ _ _ (by simp)
 have HT:=aC (rD B (.slice (some ⟨w.heap.size+1,0,none⟩) 3 3) V (fun r w'=>(dI s≠0/\r=dI s/\Below w.heap.size w w')\/(dI s=0/\R r w')) (by
  refine(qJ (w.heap.size+1) 3 3 [(92,#[.pointer (some ⟨B,0,none⟩)],#[]),(93,#[.pointer (some ⟨B,0,none⟩)],#[]),(94,#[],#[.pointer (some ⟨w.heap.size,0,none⟩)])] V rfl (by omega)
   (fun i W=>if i=0 then Below V.heap.size V W else if i=1 then Below V.heap.size V W/\s.done=false else if i=2 then Below V.heap.size V W/\s.done=false/\s.over=false else dI s=0/\R 0 W)
   (fun r W=>(dI s≠0/\r=dI s/\Below w.heap.size w W)\/(dI s=0/\R r W)) ?_ ?_ ?_ ?_).mono ?_
  ·intro i W hJ f hf
   match i,hf with
   |0,hf=>cases hf;simp only[if_true]at hJ;exact(bL.below hJ bL.lt).cell (o:=0) rfl
   |1,hf=>cases hf;simp only[Nat.one_ne_zero,if_false,if_true]at hJ;exact(bL.below hJ.1 bL.lt).cell (o:=1) rfl
   |2,hf=>cases hf;simp only[show¬(2:Nat)=0 by omega,show¬(2:Nat)=1 by omega,if_false,if_true]at hJ;exact(bL.below hJ.1 bL.lt).cell (o:=2) rfl
   |(m+3),hf=>simp at hf
  ·intro f hf args W
   simp at hf;rcases hf with rfl|rfl|rfl
   ·exact enters_of func92 (by kernel_rfl) rfl args W
   ·exact enters_of func93 (by kernel_rfl) rfl args W
   ·exact enters_of func94 (by kernel_rfl) rfl args W
  ·intro i f hf W hJ
   match i,hf with
   |0,hf=>
    cases hf;simp only[if_true]at hJ;refine(aFk F B s W ((hx.later hbV).later hJ)).mono ?_;rintro e w' ⟨rfl,rfl⟩;cases ho:s.done
    ·exact⟨0,rfl,.inl ⟨rfl,by simpa[ho]using hJ⟩⟩
    ·exact⟨5,rfl,.inr ⟨by omega,.inl ⟨by simp[dI,ho],by simp[dI,ho],hbV.trans (hJ.mono hbV.size)⟩⟩⟩
   |1,hf=>
    cases hf;simp only[Nat.one_ne_zero,if_false,if_true]at hJ;obtain⟨hJ,hd⟩:=hJ;refine(aEe F B s W ((hx.later hbV).later hJ)).mono ?_;rintro e w' ⟨rfl,rfl⟩;cases ho:s.over
    ·exact⟨0,rfl,.inl ⟨rfl,by simpa[ho,hd]using hJ⟩⟩
    ·exact⟨6,rfl,.inr ⟨by omega,.inl ⟨by simp[dI,ho,hd],by simp[dI,ho,hd],hbV.trans (hJ.mono hbV.size)⟩⟩⟩
   |2,hf=>
    cases hf;simp only[show¬(2:Nat)=0 by omega,show¬(2:Nat)=1 by omega,if_false,if_true]at hJ;have h0:dI s=0:=by simp[dI,hJ.2.1,hJ.2.2]
    refine(aEd w.heap.size _ W R (bS.below hJ.1 bS.lt) (h hJ.2.1 hJ.2.2 W (hbV.trans (hJ.1.mono hbV.size)))).mono ?_;rintro e w' ⟨r,rfl,hr⟩;by_cases hr0:r=0
    ·subst hr0
     exact⟨0,rfl,.inl ⟨rfl,by simpa using ⟨h0,hr⟩⟩⟩
    ·exact⟨r,rfl,.inr ⟨hr0,.inr ⟨h0,hr⟩⟩⟩
   |(m+3),hf=>simp at hf
  ·exact e_ _ _
  ·rintro e w' ⟨r,rfl,hr⟩
   refine⟨r,rfl,?_⟩;rcases hr with⟨rfl,h2⟩|⟨_,h2⟩
   ·simp only[show¬(3:Nat)=0 by omega,show¬(3:Nat)=1 by omega,show¬(3:Nat)=2 by omega,if_false]at h2
    exact .inr h2
   ·exact h2))
 clear h hx;go_enter func42,ntmps42
 go_wp2_with (go_at_call 45;refine HT.out.mono ?_;rintro e w1 ⟨r,rfl,hr⟩)
 go_ret;exact⟨r,rfl,hr⟩
theorem qG{s:aE}(h:dI s≠0)(t:Int):dG s t=dI s:=if_neg (fun h'=>h h'.1)
theorem Calls.at_world{P:Program}{f:Nat}{args:Array Value}{w w':World}{Q:Ending->World->Prop}(h:w=w')(hc:Calls P f args w' Q):Calls P f args w Q:=by subst h;exact hc
theorem aFz{s:aE}{k:Nat}{x:cF}{L:List aL}{t:aL}(hw:dG s (k:Int)=0)(hk:s.W[k]?= some x)(hxt:x.tasks=L++ [t]):cJ s (k:Int)=mR s k x L t:=by
 simp only[cJ,hw,ne_eq,not_true_eq_false,if_false,Int.toNat_natCast,hk,hxt,List.getLast?_append,List.getLast?_singleton,Option.some_or,f_,List.length_singleton,List.dropLast_concat,mR,lO];have e:((L.length+1:Nat):Int) - 1+((aW s.ks t).length:Int)=(L.length:Int)+((aW s.ks t).length:Int):=by omega
 rw[e];by_cases h:k=0
 ·subst h;simp
 ·simp[h]
theorem bK.low{F:Nat->Prop}{w:World}{B:Nat}{s:aE}(h:bK F w B s):bK (fun b=>F b/\b < w.heap.size) w B s:=h.kept (aB.refl (fun _=>False) w) (fun _ hg hF=>⟨fun h=>h,hF,hg⟩)
theorem bK.mono{F F':Nat->Prop}{w:World}{B:Nat}{s:aE}(h:bK F w B s)(hF:∀b,b < w.heap.size->F b->F' b):bK F' w B s:=h.kept (aB.refl (fun _=>False) w) (fun b hb h=>⟨fun h=>h,hF b hb h⟩)
theorem aHu(i:Int)(w:World):Calls prog 22 #[.pointer none,.int .i64 i] w fun e w'=>e= .returned (.int .i64 1)/\Below w.heap.size w w':=by
 go_enter func22,ntmps22
 go_wp2_with (first
  |(go_at_call 51;refine(mU none i w).mono ?_;rintro e w1 ⟨rfl,hw1⟩;have HW1:=aC hw1;clear hw1)
  |(go_at_call 52;refine(vN none i w1).mono ?_;rintro e w2 ⟨rfl,hw2⟩;have HW2:=aC hw2;clear hw2)
  |(go_at_call 53;refine(uZ none i w2).mono ?_;rintro e w3 ⟨rfl,hw3⟩;have HW3:=aC hw3;clear hw3)
  |(go_at_call 42;refine(mZ _ _ _).mono ?_;rintro e w4 ⟨rfl,hb4⟩))
 go_ret;refine⟨rfl,?_⟩;have h1:Below w.heap.size w w1:=by rw[HW1.out];exact((e_ _ _).alloc (a_ _) _).alloc (by simp) _
 have h2:Below w1.heap.size w1 w2:=by rw[HW2.out];exact((e_ _ _).alloc (a_ _) _).alloc (by simp) _
 have h3:Below w2.heap.size w2 w3:=by rw[HW3.out];exact((e_ _ _).alloc (a_ _) _).alloc (by simp) _
 have e1:=h1.size;have e2:=h2.size;have e3:=h3.size;exact(((h1.trans (h2.mono e1)).trans (h3.mono (by omega))).alloc (by omega) _).trans (hb4.mono (by simp;omega))
theorem wB(F:Nat->Prop)(B N:Nat)(s:aE)(i:Int)(w:World)(hx:bK F w B s)(hf:kD s)(hsh:cX s)(hN:dS N s)(hN':N<=90000000)(hkn:iF s)(hv:s.values.length<=90000000) :
  Calls prog 22 #[.pointer (some ⟨B,0,none⟩),.int .i64 i] w fun e w'=>e= .returned (.int .i64 (cJ s i).2)/\bK (fun b=>F b\/w.heap.size<=b) w' B (cJ s i).1/\aB F w w':=by
 have hx0:=hx.low;obtain⟨w1,hw1⟩:∃w1,(w.alloc (Obj.cells #[.pointer (some ⟨B,0,none⟩)] 36)).alloc (Obj.cells #[.int .i64 i] 3)=w1:=⟨_,rfl⟩;obtain⟨w2,hw2⟩:∃w2,(w1.alloc (Obj.cells #[.pointer (some ⟨B,0,none⟩)] 36)).alloc (Obj.cells #[.int .i64 i] 3)=w2:=⟨_,rfl⟩;obtain⟨w3,hw3⟩:∃w3,(w2.alloc (Obj.cells #[.pointer (some ⟨B,0,none⟩)] 36)).alloc (Obj.cells #[.int .i64 i] 3)=w3:=⟨_,rfl⟩;obtain⟨w4,hw4⟩:∃w4,w3.alloc (Obj.cells #[eH (110,#[],#[.pointer (some ⟨w.heap.size+1,0,none⟩),.pointer (some ⟨w.heap.size,0,none⟩)]),eH (111,#[],#[.pointer (some ⟨w1.heap.size,0,none⟩),.pointer (some ⟨w1.heap.size+1,0,none⟩)]),eH (112,#[],#[.pointer (some ⟨w2.heap.size,0,none⟩),.pointer (some ⟨w2.heap.size+1,0,none⟩)])] 94)=w4:=⟨_,rfl⟩;have g1:Below w.heap.size w w1:=by rw[<-hw1];exact((e_ _ _).alloc (a_ _) _).alloc (by simp) _
 have g2:Below w1.heap.size w1 w2:=by rw[<-hw2];exact((e_ _ _).alloc (a_ _) _).alloc (by simp) _
 have g3:Below w2.heap.size w2 w3:=by rw[<-hw3];exact((e_ _ _).alloc (a_ _) _).alloc (by simp) _
 have g4:Below w3.heap.size w3 w4:=by rw[<-hw4];exact(e_ _ _).alloc (a_ _) _
 have z1:w1.heap.size=w.heap.size+2:=by rw[<-hw1];simp
 have z2:w2.heap.size=w1.heap.size+2:=by rw[<-hw2];simp
 have z3:w3.heap.size=w2.heap.size+2:=by rw[<-hw3];simp
 have z4:w4.heap.size=w3.heap.size+1:=by rw[<-hw4];simp
 have hA:fF w4 w.heap.size (w.heap.size+1) B i:=by
  have h:fF w1 w.heap.size (w.heap.size+1) B i:=⟨by rw[<-hw1];exact(aD.new w _ _).alloc _,by rw[<-hw1];exact fM _ _ _ _ (by simp)⟩;exact((h.below g2).below g3).below g4
 have hB:fF w4 w1.heap.size (w1.heap.size+1) B i:=by
  have h:fF w2 w1.heap.size (w1.heap.size+1) B i:=⟨by rw[<-hw2];exact(aD.new w1 _ _).alloc _,by rw[<-hw2];exact fM _ _ _ _ (by simp)⟩;exact(h.below g3).below g4
 have hC:fF w4 w2.heap.size (w2.heap.size+1) B i:=by
  have h:fF w3 w2.heap.size (w2.heap.size+1) B i:=⟨by rw[<-hw3];exact(aD.new w2 _ _).alloc _,by rw[<-hw3];exact fM _ _ _ _ (by simp)⟩;exact h.below g4
 have bL:aD w4 w3.heap.size 94 #[eH (110,#[],#[.pointer (some ⟨w.heap.size+1,0,none⟩),.pointer (some ⟨w.heap.size,0,none⟩)]),eH (111,#[],#[.pointer (some ⟨w1.heap.size,0,none⟩),.pointer (some ⟨w1.heap.size+1,0,none⟩)]),eH (112,#[],#[.pointer (some ⟨w2.heap.size,0,none⟩),.pointer (some ⟨w2.heap.size+1,0,none⟩)])]:=by rw[<-hw4];exact aD.new w3 _ _
 have hb4:Below w.heap.size w w4:=(((g1.trans (g2.mono (by omega))).trans (g3.mono (by omega))).trans (g4.mono (by omega)));have hx4:bK (fun b=>F b/\b < w.heap.size) w4 B s:=hx0.later hb4;have hlen:=hf.len;have hfit:=hf;have key:Calls prog 42 #[.pointer (some ⟨B,0,none⟩),.slice (some ⟨w3.heap.size,0,none⟩) 3 3] w4 fun e w'=>∃r,e= .returned (.int .i64 r)/\r=(cJ s i).2/\bK (fun b=>F b\/w.heap.size<=b) w' B (cJ s i).1/\aB F w w':=by
  refine(wG _ B w3.heap.size 3 s w4 hx4 (fun r w'=>r=(cJ s i).2/\bK (fun b=>F b\/w.heap.size<=b) w' B (cJ s i).1/\aB F w w') (fun hd hov U hU=> ?_)).mono ?_
  ·have hwU:Below w.heap.size w U:=hb4.trans (hU.mono hb4.size)
   have hxU:bK (fun b=>F b/\b < w.heap.size) U B s:=hx4.later hU;have hstart:dI s=0:=by simp[dI,hd,hov]
   have keepU:∀W,Below U.heap.size U W->(∀r,cJ s i=(s,r)->(cJ s i).2=r/\bK (fun b=>F b\/w.heap.size<=b) W B (cJ s i).1/\aB F w W):=fun W hW r hr=>by
    rw[hr];refine⟨rfl,(hxU.later hW).mono (fun b _ h=> .inl h.1),aB.of_below (hwU.trans (hW.mono hwU.size)) (fun b h1 h2=>by omega)⟩
   refine(qJ w3.heap.size 3 3 [(110,#[],#[.pointer (some ⟨w.heap.size+1,0,none⟩),.pointer (some ⟨w.heap.size,0,none⟩)]),(111,#[],#[.pointer (some ⟨w1.heap.size,0,none⟩),.pointer (some ⟨w1.heap.size+1,0,none⟩)]),(112,#[],#[.pointer (some ⟨w2.heap.size,0,none⟩),.pointer (some ⟨w2.heap.size+1,0,none⟩)])] U rfl (by omega)
    (fun j W=>if j=0 then Below U.heap.size U W else if j=1 then Below U.heap.size U W/\0<=i/\i < s.workers else if j=2 then Below U.heap.size U W/\(0<=i/\i < s.workers)/\(eY s i).1≠ []else 0=(cJ s i).2/\bK (fun b=>F b\/w.heap.size<=b) W B (cJ s i).1/\aB F w W)
    (fun r W=>r=(cJ s i).2/\bK (fun b=>F b\/w.heap.size<=b) W B (cJ s i).1/\aB F w W) ?_ ?_ ?_ ?_).mono ?_
   ·intro j W hJ f hf
    have hBU:=bL.below hU bL.lt
    match j,hf with
    |0,hf=>cases hf;simp only[if_true]at hJ;exact(hBU.below hJ hBU.lt).cell (o:=0) rfl
    |1,hf=>cases hf;simp only[Nat.one_ne_zero,if_false,if_true]at hJ;exact(hBU.below hJ.1 hBU.lt).cell (o:=1) rfl
    |2,hf=>cases hf;simp only[show¬(2:Nat)=0 by omega,show¬(2:Nat)=1 by omega,if_false,if_true]at hJ;exact(hBU.below hJ.1 hBU.lt).cell (o:=2) rfl
    |(m+3),hf=>simp at hf
   ·intro f hf args W
    simp at hf;rcases hf with rfl|rfl|rfl
    ·exact enters_of func110 (by kernel_rfl) rfl args W
    ·exact enters_of func111 (by kernel_rfl) rfl args W
    ·exact enters_of func112 (by kernel_rfl) rfl args W
   ·intro j f hf W hJ
    match j,hf with
    |0,hf=>
     cases hf;simp only[if_true]at hJ;refine(oD _ B w.heap.size (w.heap.size+1) s i W (hxU.later hJ) hfit ((hA.below hU).below hJ)).mono ?_;rintro e w' ⟨rfl,hbw⟩;have hbUw:Below U.heap.size U w':=hJ.trans (hbw.mono hJ.size);by_cases hin:i < 0\/s.workers<=i
     ·have hws:cJ s i=(s,7):=by simp[cJ,dG,hstart,hin]
      obtain⟨k1,k2,k3⟩:=keepU w' hbUw 7 hws;exact⟨7,by rw[if_pos hin],.inr ⟨by omega,k1.symm,k2,k3⟩⟩
     ·exact⟨0,by rw[if_neg hin],.inl ⟨rfl,by simp only[Nat.zero_add,Nat.one_ne_zero,if_false,if_true];exact⟨hbUw,by omega⟩⟩⟩
    |1,hf=>
     cases hf;simp only[Nat.one_ne_zero,if_false,if_true]at hJ;obtain⟨hJ,hin⟩:=hJ;obtain⟨k,rfl⟩:=Int.eq_ofNat_of_zero_le hin.1;have hf5:=hfit.five;obtain⟨x,hxk⟩:∃x,s.W[k]?= some x:=⟨_,b_ (by omega)⟩;have htk:(eY s (k:Int)).1=x.tasks:=by
      unfold eY;rw[if_neg (by omega)];simp[hxk]
     refine(aCs _ B w1.heap.size (w1.heap.size+1) k s x W (hxU.later hJ) hxk (by omega) ((hB.below hU).below hJ)).mono ?_;rintro e w' ⟨rfl,hbw⟩;have hbUw:Below U.heap.size U w':=hJ.trans (hbw.mono hJ.size);by_cases hz:x.tasks.length=0
     ·have hwe:dG s (k:Int)=0:=by simp[dG,hstart];omega
      have hz':x.tasks=[]:=List.length_eq_zero_iff.1 hz;have hws:cJ s (k:Int)=(s,8):=by simp[cJ,hwe,hxk,hz']
      obtain⟨k1,k2,k3⟩:=keepU w' hbUw 8 hws;exact⟨8,by rw[if_pos hz],.inr ⟨by omega,k1.symm,k2,k3⟩⟩
     ·refine⟨0,by rw[if_neg hz],.inl ⟨rfl,?_⟩⟩
      simp only[show¬(1+1:Nat)=0 by omega,show¬(1+1:Nat)=1 by omega,show(1+1:Nat)=2 from rfl,if_false,if_true];exact⟨hbUw,hin,by rw[htk];intro h;rw[h]at hz;simp at hz⟩
    |2,hf=>
     cases hf;simp only[show¬(2:Nat)=0 by omega,show¬(2:Nat)=1 by omega,if_false,if_true]at hJ;obtain⟨hJ,hin,hne⟩:=hJ;obtain⟨k,rfl⟩:∃k:Nat,i=(k:Int):=⟨i.toNat,by omega⟩;have h5:=hfit.five;obtain⟨x,hxk⟩:∃x,s.W[k]?= some x:=⟨_,b_ (by omega)⟩;have htk:(eY s (k:Int)).1=x.tasks:=by
      unfold eY;rw[if_neg (by omega)];simp[hxk]
     rw[htk]at hne;rcases List.eq_nil_or_concat x.tasks with hxt|⟨L,t,hxt⟩
     ·exact absurd hxt hne
     rw[List.concat_eq_append]at hxt;have hwe:dG s (k:Int)=0:=by simp[dG,hstart];omega
     have hws:=aFz hwe hxk hxt;have zU:=hwU.size;have zW:=hJ.size;have zUU:=hU.size;refine(aAi _ B w2.heap.size (w2.heap.size+1) k N s x L t W (hxU.later hJ) hfit hsh hN hN' hkn hxk (by omega) hxt hv ((hC.below hU).below hJ) ⟨fun h=>by omega,fun h=>by omega⟩).mono ?_;rintro e w' ⟨rfl,k2,k3⟩;have hxw:bK (fun b=>F b\/w.heap.size<=b) w' B (cJ s (k:Int)).1:=by rw[hws];exact k2.mono (fun b _ h=>by rcases h with h|h;exact .inl h.1;exact .inr (by omega))
     have hkw:aB F w w':=(aB.of_below (hwU.trans (hJ.mono zU)) (X:=F) (fun b h1 h2=>by omega)).andThen k3 (fun b _ h=>h.1);refine⟨(mR s k x L t).2,rfl,?_⟩;by_cases hr:(mR s k x L t).2=0
     ·refine .inl ⟨hr,?_⟩
      simp only[show¬(2+1:Nat)=0 by omega,show¬(2+1:Nat)=1 by omega,show¬(2+1:Nat)=2 by omega,if_false];exact⟨by rw[hws,hr],hxw,hkw⟩
     ·exact .inr ⟨hr,by rw[hws],hxw,hkw⟩
    |(m+3),hf=>simp at hf
   ·exact e_ _ _
   ·rintro e w' ⟨r,rfl,hr⟩
    refine⟨r,rfl,?_⟩;rcases hr with⟨rfl,h2⟩|⟨_,h2⟩
    ·simp only[show¬(3:Nat)=0 by omega,show¬(3:Nat)=1 by omega,show¬(3:Nat)=2 by omega,if_false]at h2
     exact h2
    ·exact h2
  ·rintro e w' ⟨r,rfl,hr⟩
   refine⟨r,rfl,?_⟩;rcases hr with⟨ho,rfl,hb⟩|⟨_,h2⟩
   ·have hws:cJ s i=(s,dI s):=by simp[cJ,qG ho,ho]
    rw[hws];exact⟨rfl,(hx4.later hb).mono (fun b _ h=> .inl h.1),aB.of_below (hb4.trans (hb.mono hb4.size)) (fun b h1 h2=>by omega)⟩
   ·exact h2
 have HKEY:=aC key;have HW1:=aC hw1;have HW2:=aC hw2;have HW3:=aC hw3;have HW4:=aC hw4;obtain⟨res,hres⟩:∃res,cJ s i=res:=⟨_,rfl⟩;rw[hres]at HKEY ⊢;clear key hw1 hw2 hw3 hw4 hx hx0 hx4 hA hB hC bL hb4 g1 g2 g3 g4 z1 z2 z3 z4 hf hfit hlen hres;go_enter func22,ntmps22
 go_wp2_with (first
  |(go_at_call 51;refine(mU (some ⟨B,0,none⟩) i w).mono ?_;rintro e a1 ⟨rfl,hq⟩;obtain rfl:w1=a1:=HW1.out.symm.trans hq.symm;clear hq)
  |(go_at_call 52;refine(vN (some ⟨B,0,none⟩) i w1).mono ?_;rintro e a2 ⟨rfl,hq⟩;obtain rfl:w2=a2:=HW2.out.symm.trans hq.symm;clear hq)
  |(go_at_call 53;refine(uZ (some ⟨B,0,none⟩) i w2).mono ?_;rintro e a3 ⟨rfl,hq⟩;obtain rfl:w3=a3:=HW3.out.symm.trans hq.symm;clear hq)
  |(go_at_call 42;refine Calls.at_world HW4.out ?_;refine HKEY.out.mono ?_;rintro e a4 ⟨r,rfl,hr,k2,k3⟩;subst hr))
 go_ret;exact⟨rfl,k2,k3⟩
end Go.Proofs.YtfanaanofjhlkaaGreatDoor
namespace Go.Proofs.YtfanaanofjhlkaaGreatDoor
open Go Go.RowKit Tryz
def mD(es:List Int)(i:Nat):Prop:=∀j e,j < i->es[j]?= some e->e=0
theorem mD.next{es:List Int}{i:Nat}(h:mD es i)(he:es[i]?= some 0):mD es (i+1):=fun j e hj hje=>by
 rcases Nat.lt_or_ge j i with h'|h'
 ·exact h j e h' hje
 ·obtain rfl:j=i:=by omega
  rw[he]at hje;exact(Option.some.inj hje).symm
theorem tD(g:Nat)(fs:List iO)(es:List Int)(fl:iO)(U:World)(R:Int->World->Prop)(hn:fs.length<=8)(hes:es.length=fs.length)(t:TypeId)(hbox:aD U g t ((fs++ [fl]).map eH).toArray)
  (he:∀f∈fs++ [fl],∀args w,(callFunc f.1 args).run prog w= .ok (.enter f.1 args) w)
  (test:∀i f e,fs[i]?= some f->es[i]?= some e->mD es i->∀W,Below U.heap.size U W->Calls prog f.1 (f.2.1++f.2.2) W fun en w'=>en= .returned (.int .i64 e)/\Below W.heap.size W w')
  (bad:∀i e,es[i]?= some e->e≠0->mD es i->∀W,Below U.heap.size U W->R e W)
  (last:mD es es.length->∀W,Below U.heap.size U W->Calls prog fl.1 (fl.2.1++fl.2.2) W fun en w'=>∃r,en= .returned (.int .i64 r)/\R r w') :
  Calls prog 95 #[.slice (some ⟨g,0,none⟩) (fs.length+1) (fs.length+1)] U fun e w'=>∃r,e= .returned (.int .i64 r)/\R r w':=by
 refine(qJ g (fs.length+1) (fs.length+1) (fs++ [fl]) U (by simp) (by omega) (fun i W=>if i<=fs.length then Below U.heap.size U W/\mD es i else R 0 W) (fun r W=>R r W) ?_ he ?_ ?_).mono ?_
 ·intro i W hJ f hf
  have hi:=(c_.1 hf).1;simp at hi;rw[if_pos (by omega)]at hJ;refine(hbox.below hJ.1 hbox.lt).cell (o:=i) ?_;rw[List.getElem?_toArray,List.getElem?_map,hf];rfl
 ·intro i f hf W hJ
  have hi:=(c_.1 hf).1;simp at hi;rw[if_pos (by omega)]at hJ;rcases Nat.lt_or_ge i fs.length with hl|hl
  ·rw[List.getElem?_append_left hl]at hf
   obtain⟨e,hee⟩:∃e,es[i]?= some e:=⟨_,b_ (by omega)⟩;refine(test i f e hf hee hJ.2 W hJ.1).mono ?_;rintro en w' ⟨rfl,hb⟩;have hb':Below U.heap.size U w':=hJ.1.trans (hb.mono hJ.1.size);refine⟨e,rfl,?_⟩;by_cases h0:e=0
   ·subst h0
    refine .inl ⟨rfl,?_⟩;rw[if_pos (by omega)];exact⟨hb',hJ.2.next hee⟩
   ·exact .inr ⟨h0,bad i e hee h0 hJ.2 w' hb'⟩
  ·obtain rfl:i=fs.length:=by omega
   have hfe:f=fl:=by simpa using hf.symm
   subst hfe;refine(last (by rw[hes];exact hJ.2) W hJ.1).mono ?_;rintro en w' ⟨r,rfl,hr⟩;refine⟨r,rfl,?_⟩;by_cases h0:r=0
   ·subst h0
    refine .inl ⟨rfl,?_⟩;rw[if_neg (by omega)];exact hr
   ·exact .inr ⟨h0,hr⟩
 ·rw[if_pos (Nat.zero_le _)]
  exact⟨e_ _ _,fun j e hj=>absurd hj (Nat.not_lt_zero _)⟩
 ·rintro e w' ⟨r,rfl,hr⟩
  refine⟨r,rfl,?_⟩;rcases hr with⟨rfl,h⟩|⟨-,h⟩
  ·rwa [if_neg (by omega)]at h
  ·exact h
theorem nO(F:Nat->Prop)(B g:Nat)(s:aE)(w:World)(hx:bK F w B s)(fs:List iO)(es:List Int)(fl:iO)(res:aE×Int)(w0:World)(hw0:Below w0.heap.size w0 w)(hx0:bK F w0 B s)(hn:fs.length<=8)(hes:es.length=fs.length)(t:TypeId)(hbox:aD w g t ((fs++ [fl]).map eH).toArray)
  (hover:dI s≠0->res=(s,dI s))
  (he:∀f∈fs++ [fl],∀args w,(callFunc f.1 args).run prog w= .ok (.enter f.1 args) w)
  (test:s.done=false->s.over=false->∀i f e,fs[i]?= some f->es[i]?= some e->mD es i->∀W,Below w.heap.size w W->Calls prog f.1 (f.2.1++f.2.2) W fun en w'=>en= .returned (.int .i64 e)/\Below W.heap.size W w')
  (bad:s.done=false->s.over=false->∀i e,es[i]?= some e->e≠0->mD es i->res=(s,e))
  (last:s.done=false->s.over=false->mD es es.length->∀W,Below w.heap.size w W->Calls prog fl.1 (fl.2.1++fl.2.2) W (eK (fun b=>F b/\b < w0.heap.size) W B res)) :
  Calls prog 42 #[.pointer (some ⟨B,0,none⟩),.slice (some ⟨g,0,none⟩) (fs.length+1) (fs.length+1)] w (eK F w0 B res):=by
 have same:∀W r,Below w.heap.size w W->res=(s,r)->eK F w0 B res (.returned (.int .i64 r)) W:=fun W r hb hr=>by
  rw[hr];have hb0:Below w0.heap.size w0 W:=hw0.trans (hb.mono hw0.size);exact⟨rfl,(hx0.later hb0).mono (fun b _ h=> .inl h),aB.of_below hb0 (fun b h1 h2=>by omega)⟩
 refine(wG F B g (fs.length+1) s w hx (fun r w'=>eK F w0 B res (.returned (.int .i64 r)) w') (fun hd hov U hU=> ?_)).mono ?_
 ·refine(tD g fs es fl U (fun r w'=>eK F w0 B res (.returned (.int .i64 r)) w') hn hes t (hbox.below hU hbox.lt) he (fun i f e h1 h2 h3 W hW=>test hd hov i f e h1 h2 h3 W (hU.trans (hW.mono hU.size))) (fun i e h1 h2 h3 W hW=>same W e (hU.trans (hW.mono hU.size)) (bad hd hov i e h1 h2 h3)) (fun hp W hW=> ?_)).mono (fun e w' h=>h)
  have hb:Below w.heap.size w W:=hU.trans (hW.mono hU.size);have hb0:Below w0.heap.size w0 W:=hw0.trans (hb.mono hw0.size);have z0:=hb0.size;refine(last hd hov hp W hb).mono ?_;rintro en w' ⟨rfl,h2,h3⟩;refine⟨_,rfl,rfl,h2.mono (fun b _ h=> ?_),?_⟩
  ·rcases h with h|h
   ·exact .inl h.1
   ·exact .inr (by omega)
  ·exact(aB.of_below hb0 (X:=F) (fun b h1 h2=>by omega)).andThen h3 (fun b _ h=>h.1)
 ·rintro e w' ⟨r,rfl,h⟩
  rcases h with⟨h1,rfl,h2⟩|⟨-,h⟩
  ·exact same w' _ h2 (hover h1)
  ·exact h
def pU(W:World)(Bw Bv:Nat)(i v:Int):Prop:=aD W Bw 3 #[.int .i64 i]/\aD W Bv 3 #[.int .i64 v]
theorem pU.below{W W':World}{Bw Bv:Nat}{i v:Int}(h:pU W Bw Bv i v)(hb:Below W.heap.size W W'):pU W' Bw Bv i v:=⟨h.1.below hb h.1.lt,h.2.below hb h.2.lt⟩
theorem aDb(Bw Bv:Nat)(i v:Int)(w:World)(h:pU w Bw Bv i v):Calls prog 175 #[.pointer (some ⟨Bw,0,none⟩),.pointer (some ⟨Bv,0,none⟩)] w fun e w'=>e= .returned (.int .i64 (if i=v then 7 else 0))/\Below w.heap.size w w':=by
 have a0:=h.1.cell (o:=0) rfl;have a1:=h.2.cell (o:=0) rfl;clear h;obtain⟨res,hres⟩:∃res:Int,(if i=v then(7:Int)else 0)=res:=⟨_,rfl⟩;rw[hres];by_cases hiv:i=v
 ·obtain rfl:(7:Int)=res:=by rw[<-hres,if_pos hiv]
  have he:(i==v)=true:=by simp[hiv]
  clear hiv hres;go_enter func175,ntmps175
  go_wp2_with fail
  go_ret;exact⟨rfl,e_ _ _⟩
 ·obtain rfl:(0:Int)=res:=by rw[<-hres,if_neg hiv]
  have he:(i==v)=false:=by rw[g_];exact hiv
  clear hiv hres;go_enter func175,ntmps175
  go_wp2_with fail
  go_ret;exact⟨rfl,e_ _ _⟩
theorem sW(F:Nat->Prop)(B Br Bw k:Nat)(s:aE)(x:cF)(w:World)(hx:bK F w B s)(hk:s.W[k]?= some x)(hh:fF w Br Bw B k) :
  Calls prog 96 #[.pointer (some ⟨Br,0,none⟩),.pointer (some ⟨Bw,0,none⟩)] w fun e w'=>e= .returned (.int .i64 (if x.tasks.length=0 then 0 else 9))/\Below w.heap.size w w':=by
 obtain⟨part,kv,yv,g,c,M,T,xs,y,-,h,-,-,ht,hc,hkl⟩:=nE hx hk;have hb:=h.box;have hgl0:g < w.heap.size:=(h.wrow.1.lt g rfl).2;clear h;have HI:Hid (∀U,Below w.heap.size w U->Calls prog 97 #[.pointer (some ⟨T,0,none⟩)] U fun e w'=>e= .returned (.bool (decide (x.tasks.length=0)))/\Below w.heap.size w w'):=fun U hU=>by
  refine(qR (fun b=>part b=10+k) T s.room x.tasks U (ht.kept (aB.of_below hU (X:=fun b=>w.heap.size<=b) (fun _ _ h=>h)) (fun g hg h=>⟨by omega,h⟩))).mono ?_;rintro e w' ⟨rfl,rfl⟩;exact⟨rfl,hU⟩
 have b3:w.cell? ⟨B,4,none⟩=some (.slice (some ⟨g,0,none⟩) xs.length c):=hb.cell (o:=4) rfl;have r0:=hh.1.cell (o:=0) rfl;have i0:=hh.2.cell (o:=0) rfl;have j1:(0:Int)<=(k:Int):=by omega
 have j2:(k:Int) < (xs.length:Int):=by omega
 obtain⟨eb,heb⟩:∃eb,decide (x.tasks.length=0)=eb:=⟨_,rfl⟩;rw[heb]at HI;have hif:(if x.tasks.length=0 then(0:Int)else 9)=if eb then 0 else 9:=by rw[<-heb];simp
 rw[hif];clear hif heb hb hh ht;go_enter func96,ntmps96;cases eb
 all_goals
  go_upto_region 1 with fail
  go_still_tail 8,(by kernel_rfl)
  go_wp2_with (go_at_call 97;refine(HI.out _ ((e_ _ _).drew)).mono ?_;rintro e w1 ⟨rfl,hb1⟩)
  go_ret;exact⟨rfl,hb1⟩
theorem aAu(F:Nat->Prop)(B Br Bw k:Nat)(s:aE)(x:cF)(w:World)(hx:bK F w B s)(hk:s.W[k]?= some x)(hh:fF w Br Bw B k) :
  Calls prog 176 #[.pointer (some ⟨Br,0,none⟩),.pointer (some ⟨Bw,0,none⟩)] w fun e w'=>e= .returned (.int .i64 (if x.asked=true then 9 else 0))/\Below w.heap.size w w':=by
 obtain⟨part,kv,yv,g,c,M,T,xs,y,-,h,hy,-,ht,hc,hkl⟩:=nE hx hk;have b3:w.cell? ⟨B,4,none⟩=some (.slice (some ⟨g,0,none⟩) xs.length c):=h.box.cell (o:=4) rfl;have a3:w.cell? ⟨g,k*8+1,none⟩=some (.bool x.asked):=by
  have h1:=h.wrow.1.cells (g:=g) rfl (k*8+1) _ (dZ (sz:=8) (enc:=dB) (fun _=>rfl) xs k y 1 _ hy rfl);rw[dP,(h.wat k y x hy hk).1.asked]at h1;exact h1
 have r0:=hh.1.cell (o:=0) rfl;have i0:=hh.2.cell (o:=0) rfl;have j1:(0:Int)<=(k:Int):=by omega
 have j2:(k:Int) < (xs.length:Int):=by omega
 obtain⟨eb,heb⟩:∃eb,x.asked=eb:=⟨_,rfl⟩;rw[heb]at a3 ⊢;clear heb hh ht h hc;go_enter func176,ntmps176;cases eb
 all_goals
  go_upto_region 1 with fail
  go_quiet (fail)
  go_wp2_with fail
  go_ret;exact⟨rfl,below_drewN (e_ _ _) _⟩
theorem pH(s:aE)(i j:Nat)(m:aI)(hk:m.kind≠2/\m.kind≠4)(h0:m.src=i)(h1:m.dst=j):aR s m=mS s i j m:=by
 have h2:¬(m.kind=2\/m.kind=4):=by omega
 simp only[aR,mS,aO.sent,h2,if_false,h0,h1,Int.toNat_natCast]
theorem aAd(F:Nat->Prop)(B Br Bw Bv k j:Nat)(s:aE)(x:cF)(ls:List aO)(l:aO)(w:World)(hx:bK F w B s)(hk:s.W[k]?= some x)(hls:s.links[k]?= some ls)(hl:ls[j]?= some l)(hij:j≠k)(hkn:l.known.toNat<=l.all.length)(hn:l.all.length<=100000000)(hy:s.way.length<=1000)
  (hh:fF w Br Bw B k) (hv:aD w Bv 3 #[.int .i64 (j:Int)]) (hF:¬F Br/\¬F Bw/\¬F Bv) :
  Calls prog 177 #[.pointer (some ⟨Br,0,none⟩),.pointer (some ⟨Bw,0,none⟩),.pointer (some ⟨Bv,0,none⟩)] w (eK F w B (aR {s with W:=s.W.set k {x with asked:=true}} {aH with src:=(k:Int),dst:=(j:Int),kind:=1},0)):=by
 obtain⟨part,kv,yv,g,c,M,T,xs,y,hpF,h,hy',-,-,hc,hkl⟩:=nE hx hk;have b3:w.cell? ⟨B,4,none⟩=some (.slice (some ⟨g,0,none⟩) xs.length c):=h.box.cell (o:=4) rfl;have hrow:=h.wrow;have hxw:=h.wat k y x hy' hk;have a3:w.cell? ⟨g,k*8+1,none⟩=some (.bool x.asked):=by
  have h1:=h.wrow.1.cells (g:=g) rfl (k*8+1) _ (dZ (sz:=8) (enc:=dB) (fun _=>rfl) xs k y 1 _ hy' rfl);rw[dP,hxw.1.asked]at h1;exact h1
 obtain⟨cur,hcur⟩:∃cur,aD w g 119 cur:=by
  obtain⟨cs,hcs⟩:=eO h.wrow.1 (g:=g) rfl;exact⟨cs,hcs⟩
 have f3:=hcur.frozen (k*8+1);obtain⟨Y,hY⟩:∃Y,(w.drew).setCell ⟨g,k*8+1,none⟩ (.bool true)=Y:=⟨_,rfl⟩;have kY:aB (·= g) w Y:=by rw[<-hY];exact(aB.refl (·= g) w).drew.setCell (.inl (by rfl)) _
 have rY:Y.ownsRow 0 119 8 (.slice (some ⟨g,0,none⟩) xs.length c) (xs.set k {y with asked:=true}).length ((xs.set k {y with asked:=true}).flatMap dB):=by
  have h1:=nB [.bool true] (xs.flatMap dB) (k*8+1) w.drew h.wrow.1 (by simp;omega);have h2:iH (xs.flatMap dB) (k*8+1) [.bool true]=(xs.set k {y with asked:=true}).flatMap dB:=by
   simp only[iH];refine uG (sz:=8) (enc:=dB) (fun _=>rfl) xs k y _ 1 _ hy' (by omega) ?_;simp[dB]
  rw[h2]at h1;rw[List.length_set,<-hY];exact h1
 obtain⟨h2,hm2⟩:=h.renote (x':={y with asked:=true}) (y':={x with asked:=true}) hy' hk ⟨rfl,rfl,rfl⟩ ⟨rfl,hxw.1.sent,hxw.1.came,hxw.1.black⟩ ⟨rfl,rfl,rfl,rfl⟩ (kY.mono (fun b _ e=>by subst e;exact h.wrow.2 b rfl)) rY;have hpg:part g=7:=h.wrow.2 g rfl;have nF:∀b,¬F b->b≠g:=fun b hb e=>hb (hpF b (by rw[e];omega))
 have r0:=hh.1.cell (o:=0) rfl;have i0:=hh.2.cell (o:=0) rfl;have r1:=(hh.1.kept kY (nF _ hF.1)).cell (o:=0) rfl;have i1:=(hh.2.kept kY (nF _ hF.2.1)).cell (o:=0) rfl;have v1:=(hv.kept kY (nF _ hF.2.2)).cell (o:=0) rfl;have j1:(0:Int)<=(k:Int):=by omega
 have j2:(k:Int) < (xs.length:Int):=by omega
 have HSD:Hid (Calls prog 165 #[.pointer (some ⟨B,0,none⟩),.int .i64 (k:Int),.int .i64 (j:Int),.slice (some ⟨Y.heap.size,0,none⟩) 1 1] (Y.alloc (Obj.cells (aG {aH with kind:=1}) 124)) fun e w'=>∃v,e= .returned v/\(v= .tuple #[]/\eK F w B (aR {s with W:=s.W.set k {x with asked:=true}} {aH with src:=(k:Int),dst:=(j:Int),kind:=1},0) (.returned (.int .i64 0)) w')):=by
  obtain⟨h3,hm3⟩:=h2.later ((e_ _ _).alloc (a_ _) (Obj.cells (aG {aH with kind:=1}) 124));refine(oO k j {aH with kind:=1} Y.heap.size h3 hls hl hij hkn hn hy (aD.new Y _ _)).mono ?_;rintro e w' ⟨v,rfl,rfl,part',yv',h4,hm4⟩;obtain⟨h5,h6⟩:=((hm2.trans hm3).trans hm4).okX h4 hpF;refine⟨_,rfl,rfl,rfl,?_,h6⟩;show bK _ w' B (aR _ _);rw[pH _ k j _ (by simp) rfl rfl];exact h5
 clear h h2 hm2 hrow hxw hcur rY kY hh hv hc;simp only[aH]at HSD;go_enter func177,ntmps177
 go_upto_region 1 with fail
 go_still_tail 7,(by kernel_rfl)
 go_wp2_with (go_at_call 165;refine HSD.out.mono ?_;rintro e w3 ⟨v3,rfl,rfl,hres⟩;have HRES:=aC hres;clear hres)
 go_ret;exact HRES.out
abbrev dM(W:World)(rp:Option Addr)(i:Int):World:=(W.alloc (Obj.cells #[.pointer rp] 36)).alloc (Obj.cells #[.int .i64 i] 3)
abbrev pY(W:World)(i v:Int):World:=(W.alloc (Obj.cells #[.int .i64 i] 3)).alloc (Obj.cells #[.int .i64 v] 3)
abbrev oP(W:World)(rp:Option Addr)(i v:Int):World:=((W.alloc (Obj.cells #[.pointer rp] 36)).alloc (Obj.cells #[.int .i64 i] 3)).alloc (Obj.cells #[.int .i64 v] 3)
theorem eN(W:World)(rp:Option Addr)(i:Int):Below W.heap.size W (dM W rp i):=((e_ _ _).alloc (a_ _) _).alloc (by simp) _
theorem xR(W:World)(i v:Int):Below W.heap.size W (pY W i v):=((e_ _ _).alloc (a_ _) _).alloc (by simp) _
theorem wN(W:World)(rp:Option Addr)(i v:Int):Below W.heap.size W (oP W rp i v):=(((e_ _ _).alloc (a_ _) _).alloc (by simp) _).alloc (by simp;omega) _
theorem jE(W:World)(B:Nat)(i:Int):fF (dM W (some ⟨B,0,none⟩) i) W.heap.size (W.heap.size+1) B i:=⟨(aD.new W _ _).alloc _,fM _ _ _ _ (by simp)⟩
theorem aMk(W:World)(i v:Int):pU (pY W i v) W.heap.size (W.heap.size+1) i v:=⟨(aD.new W _ _).alloc _,fM _ _ _ _ (by simp)⟩
theorem aKu(W:World)(B:Nat)(i v:Int):fF (oP W (some ⟨B,0,none⟩) i v) W.heap.size (W.heap.size+1) B i/\aD (oP W (some ⟨B,0,none⟩) i v) (W.heap.size+2) 3 #[.int .i64 v]:=⟨⟨((aD.new W _ _).alloc _).alloc _,(fM _ _ _ _ (by simp)).alloc _⟩,fM _ _ _ _ (by simp)⟩
theorem aFf(i v:Int)(w:World):Calls prog 120 #[.int .i64 i,.int .i64 v] w fun e w'=>e= .returned (.func (.func 175) #[] #[.pointer (some ⟨w.heap.size,0,none⟩),.pointer (some ⟨w.heap.size+1,0,none⟩)])/\w'=pY w i v:=by
 go_enter func120,ntmps120
 go_wp2_with fail
 go_ret;exact⟨rfl,rfl⟩
theorem tI(rp:Option Addr)(i:Int)(w:World):Calls prog 43 #[.pointer rp,.int .i64 i] w fun e w'=>e= .returned (.func (.func 96) #[] #[.pointer (some ⟨w.heap.size,0,none⟩),.pointer (some ⟨w.heap.size+1,0,none⟩)])/\w'=dM w rp i:=by
 go_enter func43,ntmps43
 go_wp2_with fail
 go_ret;exact⟨rfl,rfl⟩
theorem aAx(rp:Option Addr)(i:Int)(w:World):Calls prog 121 #[.pointer rp,.int .i64 i] w fun e w'=>e= .returned (.func (.func 176) #[] #[.pointer (some ⟨w.heap.size,0,none⟩),.pointer (some ⟨w.heap.size+1,0,none⟩)])/\w'=dM w rp i:=by
 go_enter func121,ntmps121
 go_wp2_with fail
 go_ret;exact⟨rfl,rfl⟩
theorem aAf(rp:Option Addr)(i v:Int)(w:World):Calls prog 122 #[.pointer rp,.int .i64 i,.int .i64 v] w fun e w'=>e= .returned (.func (.func 177) #[] #[.pointer (some ⟨w.heap.size,0,none⟩),.pointer (some ⟨w.heap.size+1,0,none⟩),.pointer (some ⟨w.heap.size+2,0,none⟩)])/\w'=oP w rp i v:=by
 go_enter func122,ntmps122
 go_wp2_with fail
 go_ret;exact⟨rfl,rfl⟩
abbrev rN(W W1 W2 W3 W4:World):List iO:=[(110,#[],#[.pointer (some ⟨W.heap.size+1,0,none⟩),.pointer (some ⟨W.heap.size,0,none⟩)]),(110,#[],#[.pointer (some ⟨W1.heap.size+1,0,none⟩),.pointer (some ⟨W1.heap.size,0,none⟩)]),(175,#[],#[.pointer (some ⟨W2.heap.size,0,none⟩),.pointer (some ⟨W2.heap.size+1,0,none⟩)]),(96,#[],#[.pointer (some ⟨W3.heap.size,0,none⟩),.pointer (some ⟨W3.heap.size+1,0,none⟩)]),(176,#[],#[.pointer (some ⟨W4.heap.size,0,none⟩),.pointer (some ⟨W4.heap.size+1,0,none⟩)])]
abbrev rQ(W5:World):iO:=(177,#[],#[.pointer (some ⟨W5.heap.size,0,none⟩),.pointer (some ⟨W5.heap.size+1,0,none⟩),.pointer (some ⟨W5.heap.size+2,0,none⟩)])
theorem wW(rp:Option Addr)(i v:Int)(w:World)(R:Ending->World->Prop)
  (h:∀W1 W2 W3 W4 W5 W6 W7,dM w rp i=W1->dM W1 rp v=W2->pY W2 i v=W3->dM W3 rp i=W4->dM W4 rp i=W5->oP W5 rp i v=W6->W6.alloc (Obj.cells ((rN w W1 W2 W3 W4++ [rQ W5]).map eH).toArray 94)=W7->Calls prog 42 #[.pointer rp,.slice (some ⟨W6.heap.size,0,none⟩) 6 6] W7 fun e w'=>(∃r,e= .returned (.int .i64 r))/\R e w') :
  Calls prog 57 #[.pointer rp,.int .i64 i,.int .i64 v] w R:=by
 obtain⟨W1,h1⟩:∃W1,dM w rp i=W1:=⟨_,rfl⟩;obtain⟨W2,h2⟩:∃W2,dM W1 rp v=W2:=⟨_,rfl⟩;obtain⟨W3,h3⟩:∃W3,pY W2 i v=W3:=⟨_,rfl⟩;obtain⟨W4,h4⟩:∃W4,dM W3 rp i=W4:=⟨_,rfl⟩;obtain⟨W5,h5⟩:∃W5,dM W4 rp i=W5:=⟨_,rfl⟩;obtain⟨W6,h6⟩:∃W6,oP W5 rp i v=W6:=⟨_,rfl⟩;obtain⟨W7,h7⟩:∃W7,W6.alloc (Obj.cells ((rN w W1 W2 W3 W4++ [rQ W5]).map eH).toArray 94)=W7:=⟨_,rfl⟩;have HC:=aC (h W1 W2 W3 W4 W5 W6 W7 h1 h2 h3 h4 h5 h6 h7);have H1:Hid ((w.alloc (Obj.cells #[.pointer rp] 36)).alloc (Obj.cells #[.int .i64 i] 3)=W1):=h1;have H2:Hid ((W1.alloc (Obj.cells #[.pointer rp] 36)).alloc (Obj.cells #[.int .i64 v] 3)=W2):=h2;have H3:=aC h3;have H4:=aC h4;have H5:=aC h5;have H6:=aC h6;have H7:=aC h7;clear h h1 h2 h3 h4 h5 h6 h7;go_enter func57,ntmps57
 go_wp2_with (first
  |(go_at_call 51;refine(mU rp _ _).mono ?_;rintro e a1 ⟨rfl,hq⟩;(first|(rw[H1.out]at hq;obtain rfl:=hq.symm)|(rw[H2.out]at hq;obtain rfl:=hq.symm));clear hq)
  |(go_at_call 120;refine(aFf i v _).mono ?_;rintro e a1 ⟨rfl,hq⟩;obtain rfl:W3=a1:=H3.out.symm.trans hq.symm;clear hq)
  |(go_at_call 43;refine(tI rp i _).mono ?_;rintro e a1 ⟨rfl,hq⟩;obtain rfl:W4=a1:=H4.out.symm.trans hq.symm;clear hq)
  |(go_at_call 121;refine(aAx rp i _).mono ?_;rintro e a1 ⟨rfl,hq⟩;obtain rfl:W5=a1:=H5.out.symm.trans hq.symm;clear hq)
  |(go_at_call 122;refine(aAf rp i v _).mono ?_;rintro e a1 ⟨rfl,hq⟩;obtain rfl:W6=a1:=H6.out.symm.trans hq.symm;clear hq)
  |(go_at_call 42;refine Calls.at_world H7.out ?_;refine HC.out.mono ?_;rintro e a7 ⟨⟨r,rfl⟩,hr⟩))
 exact hr
theorem aGj(i v:Int)(w:World):Calls prog 57 #[.pointer none,.int .i64 i,.int .i64 v] w fun e w'=>e= .returned (.int .i64 1)/\Below w.heap.size w w':=by
 refine wW none i v w _ (fun W1 W2 W3 W4 W5 W6 W7 h1 h2 h3 h4 h5 h6 h7=> ?_);refine(mZ W6.heap.size 6 W7).mono ?_;rintro e w' ⟨rfl,hb⟩;have g1:=eN w none i;have g2:=eN W1 none v;have g3:=xR W2 i v;have g4:=eN W3 none i;have g5:=eN W4 none i;have g6:=wN W5 none i v;rw[h1]at g1;rw[h2]at g2;rw[h3]at g3;rw[h4]at g4;rw[h5]at g5;rw[h6]at g6;have g7:Below W6.heap.size W6 W7:=by rw[<-h7];exact(e_ _ _).alloc (a_ _) _
 have z1:=g1.size;have z2:=g2.size;have z3:=g3.size;have z4:=g4.size;have z5:=g5.size;have z6:=g6.size;have z7:=g7.size;exact⟨⟨1,rfl⟩,rfl,((((((g1.trans (g2.mono (by omega))).trans (g3.mono (by omega))).trans (g4.mono (by omega))).trans (g5.mono (by omega))).trans (g6.mono (by omega))).trans (g7.mono (by omega))).trans (hb.mono (by omega))⟩
theorem mY{s:aE}(hd:s.done=false)(ho:s.over=false)(t:Int):dG s t=if t < 0\/s.workers<=t then 7 else 0:=by
 have:dI s=0:=by simp[dI,hd,ho]
 unfold dG;rw[this];by_cases h:t < 0\/s.workers<=t
 ·rw[if_pos ⟨rfl,h⟩,if_pos h]
 ·rw[if_neg (fun h'=>h h'.2),if_neg h]
theorem jA{c:Prop} [Decidable c]{n:Int}(hn:n≠0)(h:(if c then n else 0)=0):¬c:=fun hc=>hn (by rwa [if_pos hc]at h)
theorem aDk(F:Nat->Prop)(B N:Nat)(s:aE)(i v:Int)(w:World)(hx:bK F w B s)(hf:kD s)(hs:cX s)(hN:dS N s)(hN':N<=90000000)(hkn:∀ls∈s.links,∀l∈ls,l.known.toNat<=l.all.length) :
  Calls prog 57 #[.pointer (some ⟨B,0,none⟩),.int .i64 i,.int .i64 v] w (eK F w B (eE s i v)):=by
 refine wW (some ⟨B,0,none⟩) i v w _ (fun W1 W2 W3 W4 W5 W6 W7 h1 h2 h3 h4 h5 h6 h7=> ?_);have g1:=eN w (some ⟨B,0,none⟩) i;have g2:=eN W1 (some ⟨B,0,none⟩) v;have g3:=xR W2 i v;have g4:=eN W3 (some ⟨B,0,none⟩) i;have g5:=eN W4 (some ⟨B,0,none⟩) i;have g6:=wN W5 (some ⟨B,0,none⟩) i v;have a1:=jE w B i;have a2:=jE W1 B v;have a3:=aMk W2 i v;have a4:=jE W3 B i;have a5:=jE W4 B i;have a6:=aKu W5 B i v;rw[h1]at g1 a1;rw[h2]at g2 a2;rw[h3]at g3 a3;rw[h4]at g4 a4;rw[h5]at g5 a5;rw[h6]at g6 a6;have g7:Below W6.heap.size W6 W7:=by rw[<-h7];exact(e_ _ _).alloc (a_ _) _
 have bL:aD W7 W6.heap.size 94 ((rN w W1 W2 W3 W4++ [rQ W5]).map eH).toArray:=by rw[<-h7];exact aD.new W6 _ _
 have z1:=g1.size;have z2:=g2.size;have z3:=g3.size;have z4:=g4.size;have z5:=g5.size;have z6:=g6.size;have z7:=g7.size;have k6:Below W5.heap.size W5 W7:=g6.trans (g7.mono z6);have k5:Below W4.heap.size W4 W7:=g5.trans (k6.mono z5);have k4:Below W3.heap.size W3 W7:=g4.trans (k5.mono z4);have k3:Below W2.heap.size W2 W7:=g3.trans (k4.mono z3);have k2:Below W1.heap.size W1 W7:=g2.trans (k3.mono z2);have hb:Below w.heap.size w W7:=g1.trans (k2.mono z1);have c1:=a1.below k2;have c2:=a2.below k3;have c3:=a3.below k4;have c4:=a4.below k5;have c5:=a5.below k6;have c6:fF W7 W5.heap.size (W5.heap.size+1) B i/\aD W7 (W5.heap.size+2) 3 #[.int .i64 v]:=⟨a6.1.below g7,a6.2.below g7 a6.2.lt⟩;clear a1 a2 a3 a4 a5 a6 h1 h2 h3 h4 h5 h6 h7 g1 g2 g3 g4 g5 g6 k2 k3 k4 k5 k6;have hlow:=hx.low;obtain⟨x0,hx0⟩:∃x0,s.W[i.toNat]?.getD cR=x0:=⟨_,rfl⟩;have hlen:=hs.len;have h5w:=hs.five;have valid:∀{t:Int},¬(t < 0\/s.workers<=t)->∃(k:Nat),t=(k:Int)/\k < s.W.length:=fun{t} ht=>⟨t.toNat,by omega,by omega⟩
 have getx:∀{k:Nat},i=(k:Int)->k < s.W.length->s.W[k]?= some x0:=fun{k} hi hk=>by
  rw[<-hx0,hi];simp[hk]
 refine(nO F B W6.heap.size s W7 (hx.later hb) (rN w W1 W2 W3 W4) [if i < 0\/s.workers<=i then 7 else 0,if v < 0\/s.workers<=v then 7 else 0,if i=v then 7 else 0,if x0.tasks.length=0 then 0 else 9,if x0.asked=true then 9 else 0] (rQ W5) (eE s i v) w hb hx (by simp) (by simp) 94 bL ?over ?enter ?test ?bad ?last).mono (fun e w' h=>⟨⟨_,h.1⟩,h⟩)
 case over=>
  intro ho;simp[eE,qG ho,ho]
 case enter=>
  intro f hf' args W;simp at hf';rcases hf' with rfl|rfl|rfl|rfl|rfl|rfl
  ·exact enters_of func110 (by kernel_rfl) rfl args W
  ·exact enters_of func110 (by kernel_rfl) rfl args W
  ·exact enters_of func175 (by kernel_rfl) rfl args W
  ·exact enters_of func96 (by kernel_rfl) rfl args W
  ·exact enters_of func176 (by kernel_rfl) rfl args W
  ·exact enters_of func177 (by kernel_rfl) rfl args W
 case test=>
  intro hd ho j f e hj he hp W hW;have hxW:=(hx.later hb).later hW
  match j,hj,he with
  |0,hj,he=>cases hj;cases he;exact oD F B _ _ s i W hxW hf (c1.below hW)
  |1,hj,he=>cases hj;cases he;exact oD F B _ _ s v W hxW hf (c2.below hW)
  |2,hj,he=>cases hj;cases he;exact aDb _ _ i v W (c3.below hW)
  |3,hj,he=>
   cases hj;cases he;obtain⟨k,rfl,hk⟩:=valid (jA (by omega) (hp 0 _ (by omega) rfl));exact sW F B _ _ k s x0 W hxW (getx rfl hk) (c4.below hW)
  |4,hj,he=>
   cases hj;cases he;obtain⟨k,rfl,hk⟩:=valid (jA (by omega) (hp 0 _ (by omega) rfl));exact aAu F B _ _ k s x0 W hxW (getx rfl hk) (c5.below hW)
  |(n+5),hj,he=>simp at hj
 case bad=>
  intro hd ho j e he hne hp;have wi:=mY hd ho i;have wv:=mY hd ho v
  match j,he with
  |0,he=>cases he;simp only[eE,wi,if_pos hne]
  |1,he=>
   cases he;have p0:=hp 0 _ (by omega) rfl;simp only[eE,wi,p0,wv,ne_eq,not_true_eq_false,if_false,if_pos hne]
  |2,he=>
   cases he;have p0:=hp 0 _ (by omega) rfl;have p1:=hp 1 _ (by omega) rfl;have hiv:i=v:=by
    by_cases h:i=v
    ·exact h
    ·rw[if_neg h]at hne;exact absurd rfl hne
   simp[eE,wv,p1,hiv]
  |3,he=>
   cases he;have p0:=hp 0 _ (by omega) rfl;have p1:=hp 1 _ (by omega) rfl;have p2:=jA (by omega) (hp 2 _ (by omega) rfl);obtain⟨k,rfl,hk⟩:=valid (jA (by omega) p0);have hg:=getx rfl hk;have ht:x0.tasks≠ []:=fun h=>by rw[h]at hne;simp at hne
   have ht':¬x0.tasks.length=0:=fun h=>ht (List.length_eq_zero_iff.1 h)
   simp only[eE,wi,p0,wv,p1,ne_eq,not_true_eq_false,if_false,if_neg p2,Int.toNat_natCast,hg,if_neg ht'];rw[if_pos (.inl ht)]
  |4,he=>
   cases he;have p0:=hp 0 _ (by omega) rfl;have p1:=hp 1 _ (by omega) rfl;have p2:=jA (by omega) (hp 2 _ (by omega) rfl);obtain⟨k,rfl,hk⟩:=valid (jA (by omega) p0);have hg:=getx rfl hk;have ha:x0.asked=true:=by
    by_cases h:x0.asked=true
    ·exact h
    ·rw[if_neg h]at hne;exact absurd rfl hne
   simp only[eE,wi,p0,wv,p1,ne_eq,not_true_eq_false,if_false,if_neg p2,Int.toNat_natCast,hg,if_pos ha];rw[if_pos (.inr ha)]
  |(n+5),he=>simp at he
 case last=>
  intro hd ho hp W hW;have wi:=mY hd ho i;have wv:=mY hd ho v;have p0:=hp 0 _ (by simp) rfl;have p1:=hp 1 _ (by simp) rfl;have p2:=jA (by omega) (hp 2 _ (by simp) rfl);have p3:=hp 3 _ (by simp) rfl;have p4:=jA (by omega) (hp 4 _ (by simp) rfl);obtain⟨k,rfl,hk⟩:=valid (jA (by omega) p0);obtain⟨q,rfl,hq⟩:=valid (jA (by omega) p1);have hg:=getx rfl hk;obtain⟨ls,l,hls,hl⟩:=hs.link hk hq;have ht:x0.tasks=[]:=by
   by_cases h:x0.tasks.length=0
   ·exact List.length_eq_zero_iff.1 h
   ·rw[if_neg h]at p3;omega
  have hres:eE s (k:Int) (q:Int)=(aR {s with W:=s.W.set k {x0 with asked:=true}} {aH with src:=(k:Int),dst:=(q:Int),kind:=1},0):=by
   simp only[eE,wi,p0,wv,p1,ne_eq,not_true_eq_false,if_false,if_neg p2,Int.toNat_natCast,hg];rw[if_neg (by rintro(h|h);exact h ht;exact p4 h)]
  rw[hres];have hbW:Below w.heap.size w W:=hb.trans (hW.mono hb.size);have c6W:=c6.1.below hW;exact aAd _ B _ _ _ k q s x0 ls l W (hlow.later hbW) hg hls hl (fun e=>p2 (by rw[e])) (hkn ls (d_ hls) l (d_ hl)) (by have:=hN.all ls (d_ hls) l (d_ hl);omega) (by have:=hs.way;omega) c6W (c6.2.below hW c6.2.lt) ⟨fun h=>by omega,fun h=>by omega,fun h=>by omega⟩
theorem tS{base t sz g n cap:Nat}{xs:List Value}:∀(vs:List Value) (o:Nat) (W:World),W.ownsRow base t sz (.slice (some ⟨g,0,none⟩) n cap) n xs->n*sz<=o->(W.setCells g o vs).ownsRow base t sz (.slice (some ⟨g,0,none⟩) n cap) n xs/\aB (·= g) W (W.setCells g o vs)
 |[],o,W,h,_=>⟨h,aB.refl _ _⟩
 |v :: r,o,W,h,ho=>by
  have h1:(W.setCell ⟨g,o,none⟩ v).ownsRow base t sz (.slice (some ⟨g,0,none⟩) n cap) n xs:=by
   obtain⟨hl,h2⟩:=h;rcases h2 with⟨h0,_⟩|⟨g',cap',cur,h0,hb,hcur,hnc,hcm,hcs,htk⟩
   ·cases h0
   ·cases h0
    have hbx:aD W g t cur:=hcur;refine⟨hl,.inr ⟨g,cap,cur.setIfInBounds o v,rfl,hb,hbx.setAt o v,hnc,hcm,by simpa using hcs,?_⟩⟩;rw[Array.toList_setIfInBounds,List.take_set_of_le ho];exact htk
  obtain⟨h2,h3⟩:=tS r (o+1) _ h1 (by omega);exact⟨h2,((aB.refl (·= g) W).setCell (.inl (by rfl)) v).trans h3⟩
theorem yV{base t sz g n cap k:Nat}{W:World}{xs ys:List Value}(h:W.ownsRow base t sz (.slice (some ⟨g,0,none⟩) n cap) n (xs++ys))(hk:k<=n)(hx:xs.length=k*sz):W.ownsRow base t sz (.slice (some ⟨g,0,none⟩) k cap) k xs:=by
 obtain⟨hl,h2⟩:=h;rcases h2 with⟨h0,_⟩|⟨g',cap',cur,h0,hb,hcur,hnc,hcm,hcs,htk⟩
 ·cases h0
 ·cases h0
  refine⟨hx,.inr ⟨g,cap,cur,rfl,hb,hcur,by omega,hcm,hcs,?_⟩⟩;have h1:=congrArg (List.take (k*sz)) htk;rw[List.take_take,Nat.min_eq_left (Nat.mul_le_mul_right sz hk),<-hx,List.take_left' rfl,hx]at h1;exact h1
theorem aGv(w:World):(zeroValue 124).run prog w= .ok (.agg (aG aH)) w:=by
 have hi:=jS;cases h:prog.info? 124 with
 |none=>rw[h]at hi;cases hi
 |some i=>
  rw[h]at hi;simp at hi;simp[zeroValue,typeInfo,h,hi.1,aH]
theorem aEa(w:World)(ty:TypeId)(g o c:Nat)(hc:∀j,j < 15->(w.cell? ⟨g,o+j,none⟩).isSome=true)(hf:∀j,j < 15->w.frozen? ⟨g,o+j,none⟩=false) :
  (Builtin.clear_ #[97] ty #[.slice (some ⟨g,o,none⟩) 1 c]).run prog w= .ok (.tuple #[]) (w.setCells g o (aK aH)):=by
 have hst:=run_storeCells_cells (P:=prog) g o (aK aH) 0 w (by simpa[aK]using hc) (by simpa[aK]using hf) (by intro v hv;exact mI aH v hv);simp only[Nat.add_zero]at hst;have hz:(Builtin.zeroCells (Value.agg (aG aH)).cells 1).toList=aK aH:=by kernel_rfl
 simp only[aH]at hz hst ⊢;simp[Builtin.clear_,run_underlying underlying97,hz,hst]
theorem aEs(g cap k:Nat)(l:List aI)(m:aI)(w:World)(h:w.ownsRow 0 124 15 (.slice (some ⟨g,0,none⟩) l.length cap) l.length (l.flatMap aK))(hk:l[k]?= some m)(hl:l.length<=1000) :
  Calls prog 189 #[.slice (some ⟨g,0,none⟩) l.length cap,.int .i64 (k:Int),.int .i64 ((k:Int)+1)] w fun e w'=>∃v,e= .returned v/\(v= .slice (some ⟨g,0,none⟩) (l.length - 1) cap/\w'.ownsRow 0 124 15 (.slice (some ⟨g,0,none⟩) (l.length - 1) cap) (l.length - 1) ((l.take k++l.drop (k+1)).flatMap aK)/\aB (·= g) w w'):=by
 obtain⟨iM,hiM,hzM0,hzM1,hzM2⟩:=info_parts jS;have hkl:=(c_.1 hk).1;obtain⟨n,hn⟩:∃n,l.length=n:=⟨_,rfl⟩;have hcap:n<=cap:=by
  rcases h.2 with⟨h0,_⟩|⟨g',cap',cur,h0,_,_,h1,_⟩
  ·cases h0
  ·cases h0;omega
 have HT1:Hid (((l.take k).flatMap aK).length=k*15):=by show _=_;rw[fL (sz:=15) (enc:=aK) (fun _=>rfl),List.length_take,Nat.min_eq_left (by omega)]
 have HT2:Hid (((l.drop (k+1)).flatMap aK).length=(n - (k+1))*15):=by show _=_;rw[fL (sz:=15) (enc:=aK) (fun _=>rfl),List.length_drop,hn]
 have HSP:Hid (l.flatMap aK=(l.take k).flatMap aK++(aK m++(l.drop (k+1)).flatMap aK)):=by
  show _=_;rw[<-List.flatMap_cons,<-List.flatMap_append]
  congr 1
  rw[c_]at hk;obtain⟨h1,rfl⟩:=hk;rw[<-List.drop_eq_getElem_cons h1,List.take_append_drop]
 have HROW:=aC h;have HCY:Hid (∀j u,(l.flatMap aK)[j]?= some u->w.cell? ⟨g,j,none⟩=some u):=fun j u hj=>by
  have:=h.cells (g:=g) rfl j u hj;rwa [dP]at this
 have HPRE:Hid (∀U,aB (fun _=>False) w U->U.ownsRow 0 124 15 (.slice (some ⟨g,0,none⟩) k cap) k ((l.take k).flatMap aK)):=fun U hU=>by
  refine aP ?_ hU (fun _ _ h=>h) (a_ _);have h':=h;rw[HSP.out]at h';exact yV h' (by omega) HT1.out
 have HN2:Hid (∀j u,((l.drop (k+1)).flatMap aK)[j]?= some u->w.cell? ⟨g,(k+1)*15+j,none⟩=some u):=fun j u hj=>by
  refine HCY.out ((k+1)*15+j) u ?_;rw[HSP.out,i7 (by rw[HT1.out];omega),HT1.out,i7 (by show 15<=_;omega)];have e:(k+1)*15+j - k*15 - (aK m).length=j:=by show _ - 15=_;omega
  rw[e];exact hj
 have HLN:Hid (l.length=n):=hn;rw[hn]at h hkl hl ⊢;have HRN:Hid (w.ownsRow 0 124 15 (.slice (some ⟨g,0,none⟩) n cap) n (l.flatMap aK)):=h;have hgl:=(h.lt g rfl).2;have i0:(0:Int)<=(k:Int):=by omega
 have i1:(0:Int)<=(k:Int)+1:=by omega
 have i2:(k:Int)<=(k:Int)+1:=by omega
 have i3:(k:Int)+1<=(n:Int):=by omega
 have i4:(n:Int)<=(cap:Int):=by omega
 have i5:(k:Int)<=(cap:Int):=by omega
 have i6:((k:Int)==(k:Int)+1)=false:=by rw[g_];omega
 obtain⟨p,rfl⟩:∃p,n=p+1:=⟨n - 1,by omega⟩;rw[show p+1 - 1=p from rfl];clear h hk hn HROW;go_enter func189,ntmps189
 go_upto_region 5 with fail
 have hpk:p+1 - (k+1)=p - k:=by omega
 rw[hpk]at HT2;have HFIT:Hid (k+(p - k)<=cap):=by show _<=_;omega
 have HPK:Hid (k+(p - k)=p):=by show _=_;omega
 have hkw:aB (fun _=>False) w w.drew:=(aB.refl _ _).drew;have HPR:=aC (HPRE.out w.drew hkw);have q1:p+1 - (k+1)=p - k:=hpk;have q2:(k:Int)<=(p:Int):=by omega
 have q3:k<=p:=by omega
 have q4:(p:Int)+1<=(cap:Int):=by omega
 have q5:(k:Int)+1<=(p:Int)+1:=by omega
 go_cut [0]from 8 to 26 (fun v2 w2=>v2= .slice (some ⟨g,0,none⟩) (k+(p - k)) cap/\w2.ownsRow 0 124 15 (.slice (some ⟨g,0,none⟩) (k+(p - k)) cap) (k+(p - k)) ((l.take k).flatMap aK++(l.drop (k+1)).flatMap aK)/\aB (·= g) w w2)
 case first=>
  by_cases hyc:cap=k+1
  ·have HD:Hid ((l.drop (k+1)).flatMap aK=[]):=by show _=_;rw[List.drop_eq_nil_of_le (by have:=HLN.out;omega)];rfl
   obtain rfl:p=k:=by omega
   subst hyc;have q6:p+1 - (p+1)=0:=by omega
   have q7:p - p=0:=by omega
   go_still_tail 6,(by kernel_rfl)
   go_wp2_with (at_builtin;refine wpList_append_fits w.drew rfl _ _ _ rfl 0 124 iM 15 underlying97 hiM hzM1 g p (p+1) ((l.take p).flatMap aK) rfl HPR.out ⟨g,0,none⟩ 0 0 [] rfl rfl (fun j u hj=>by simp at hj) (fun u hu=>by simp at hu) (by omega) ?_;intro w2 hown2 hgrow2)
   go_meet
   case rel=>
    refine⟨by first|rfl|(rw[HPK.out]),?_,(aB.refl _ _).drew.trans (aB.grown hgrow2 (fun r e=>by cases e;rfl))⟩;rw[HD.out];simpa using hown2
  ·have hy1:¬cap - (k+1)=0:=by omega
   have hy2:k+1 < cap:=by omega
   have hy3:(k:Int)+1 < (cap:Int):=by omega
   have HN3:Hid (∀j u,((l.drop (k+1)).flatMap aK)[j]?= some u->w.drew.cell? ((⟨g,(k+1)*15,none⟩:Addr).add j)=some u):=fun j u hj=>by
    have e:(⟨g,(k+1)*15,none⟩:Addr).add j=⟨g,(k+1)*15+j,none⟩:=by unfold Addr.add;split<;>simp_all
    rw[e];exact HN2.out j u hj
   go_still_tail 6,(by kernel_rfl)
   go_wp2_with (at_builtin;refine wpList_append_fits w.drew rfl _ _ _ rfl 0 124 iM 15 underlying97 hiM hzM1 g k cap ((l.take k).flatMap aK) rfl HPR.out ⟨g,(k+1)*15,none⟩ (p - k) (cap - (k+1)) ((l.drop (k+1)).flatMap aK) rfl HT2.out HN3.out (iZ mI _) HFIT.out ?_;intro w2 hown2 hgrow2)
   go_meet
   case rel=>exact⟨by first|rfl|(rw[HPK.out]),hown2,(aB.refl _ _).drew.trans (aB.grown hgrow2 (fun r e=>by cases e;rfl))⟩
 case rest=>
  obtain⟨rfl,hown2,hk2⟩:=hcut
  rename World=>w2
  rw[HPK.out]at hown2 ⊢;have hcells:∀j,j < 15->(w2.cell? ⟨g,p*15+j,none⟩).isSome=true/\w2.frozen? ⟨g,p*15+j,none⟩=false:=fun j hj=>by
   obtain⟨hx,h2⟩:=hown2;rcases h2 with⟨h0,_⟩|⟨g',cap',cur,h0,hb,hcur,hnc,hcm,hcs,htk⟩
   ·cases h0
   ·cases h0
    have hbx:aD w2 g 124 cur:=hcur;obtain⟨v,hv⟩:=dN (cs:=cur) (i:=p*15+j) (by rw[hcs];omega);exact⟨by rw[hbx.cell hv];rfl,hbx.frozen _⟩
  obtain⟨w3,hw3⟩:∃w3,w2.setCells g (p*15) (aK aH)=w3:=⟨_,rfl⟩;have hclr:∀ty,(Builtin.clear_ #[97] ty #[.slice (some ⟨g,p*15,none⟩) 1 (cap - p)]).run prog w2= .ok (.tuple #[]) w3:=fun ty=>by
   rw[<-hw3];exact aEa w2 ty g (p*15) (cap - p) (fun j hj=>(hcells j hj).1) (fun j hj=>(hcells j hj).2)
  obtain⟨hown3,hk3⟩:=tS (aK aH) (p*15) w2 hown2 (a_ _);rw[hw3]at hown3 hk3;have HO3:=aC hown3;have HK3:Hid (aB (·= g) w w3):=hk2.trans hk3;have e0:(0:Int)<=(p:Int):=by omega
  have e1:(p:Int)<=((p+1:Nat):Int):=by omega
  have e2:((p+1:Nat):Int)<=(cap:Int):=by omega
  have e3:¬cap - p=0:=by omega
  have e4:p < cap:=by omega
  have e5:(p:Int) < (cap:Int):=by omega
  have e6:p+1 - p=1:=by omega
  clear hown2 hk2 hown3 hk3 hcells hw3 HCY HN2 HPRE HPR HRN HT1 HT2 HSP HFIT
  go_wp2_with fail
  go_ret;refine⟨_,rfl,rfl,?_,HK3.out⟩;rw[List.flatMap_append];exact HO3.out
def nZ:aL:=⟨⟨#[]⟩,0,0⟩
theorem aBt(w:World)(ty:TypeId)(g o c:Nat)(hc:∀j,j < 3->(w.cell? ⟨g,o+j,none⟩).isSome=true)(hf:∀j,j < 3->w.frozen? ⟨g,o+j,none⟩=false) :
  (Builtin.clear_ #[58] ty #[.slice (some ⟨g,o,none⟩) 1 c]).run prog w= .ok (.tuple #[]) (w.setCells g o (aJ nZ)):=by
 have hst:=run_storeCells_cells (P:=prog) g o (aJ nZ) 0 w (by simpa[aJ]using hc) (by simpa[aJ]using hf) (by intro v hv;exact lA nZ v hv);simp only[Nat.add_zero]at hst;have hz:(Builtin.zeroCells (Value.agg #[.string ⟨#[]⟩,.int .i64 0,.int .i64 0]).cells 1).toList=aJ nZ:=by kernel_rfl
 simp only[nZ]at hz hst ⊢;simp[Builtin.clear_,run_underlying underlying58,hz,hst]
theorem aDn(g cap k:Nat)(l:List aL)(m:aL)(w:World)(h:w.ownsRow 0 62 3 (.slice (some ⟨g,0,none⟩) l.length cap) l.length (l.flatMap aJ))(hk:l[k]?= some m)(hl:l.length<=200000000) :
  Calls prog 231 #[.slice (some ⟨g,0,none⟩) l.length cap,.int .i64 (k:Int),.int .i64 ((k:Int)+1)] w fun e w'=>∃v,e= .returned v/\(v= .slice (some ⟨g,0,none⟩) (l.length - 1) cap/\w'.ownsRow 0 62 3 (.slice (some ⟨g,0,none⟩) (l.length - 1) cap) (l.length - 1) ((l.take k++l.drop (k+1)).flatMap aJ)/\aB (·= g) w w'):=by
 obtain⟨iM,hiM,hzM0,hzM1,hzM2⟩:=info_parts jU;have hkl:=(c_.1 hk).1;obtain⟨n,hn⟩:∃n,l.length=n:=⟨_,rfl⟩;have hcap:n<=cap:=by
  rcases h.2 with⟨h0,_⟩|⟨g',cap',cur,h0,_,_,h1,_⟩
  ·cases h0
  ·cases h0;omega
 have HT1:Hid (((l.take k).flatMap aJ).length=k*3):=by show _=_;rw[fL (sz:=3) (enc:=aJ) (fun _=>rfl),List.length_take,Nat.min_eq_left (by omega)]
 have HT2:Hid (((l.drop (k+1)).flatMap aJ).length=(n - (k+1))*3):=by show _=_;rw[fL (sz:=3) (enc:=aJ) (fun _=>rfl),List.length_drop,hn]
 have HSP:Hid (l.flatMap aJ=(l.take k).flatMap aJ++(aJ m++(l.drop (k+1)).flatMap aJ)):=by
  show _=_;rw[<-List.flatMap_cons,<-List.flatMap_append]
  congr 1
  rw[c_]at hk;obtain⟨h1,rfl⟩:=hk;rw[<-List.drop_eq_getElem_cons h1,List.take_append_drop]
 have HROW:=aC h;have HCY:Hid (∀j u,(l.flatMap aJ)[j]?= some u->w.cell? ⟨g,j,none⟩=some u):=fun j u hj=>by
  have:=h.cells (g:=g) rfl j u hj;rwa [dP]at this
 have HPRE:Hid (∀U,aB (fun _=>False) w U->U.ownsRow 0 62 3 (.slice (some ⟨g,0,none⟩) k cap) k ((l.take k).flatMap aJ)):=fun U hU=>by
  refine aP ?_ hU (fun _ _ h=>h) (a_ _);have h':=h;rw[HSP.out]at h';exact yV h' (by omega) HT1.out
 have HN2:Hid (∀j u,((l.drop (k+1)).flatMap aJ)[j]?= some u->w.cell? ⟨g,(k+1)*3+j,none⟩=some u):=fun j u hj=>by
  refine HCY.out ((k+1)*3+j) u ?_;rw[HSP.out,i7 (by rw[HT1.out];omega),HT1.out,i7 (by show 3<=_;omega)];have e:(k+1)*3+j - k*3 - (aJ m).length=j:=by show _ - 3=_;omega
  rw[e];exact hj
 have HLN:Hid (l.length=n):=hn;rw[hn]at h hkl hl ⊢;have HRN:Hid (w.ownsRow 0 62 3 (.slice (some ⟨g,0,none⟩) n cap) n (l.flatMap aJ)):=h;have hgl:=(h.lt g rfl).2;have i0:(0:Int)<=(k:Int):=by omega
 have i1:(0:Int)<=(k:Int)+1:=by omega
 have i2:(k:Int)<=(k:Int)+1:=by omega
 have i3:(k:Int)+1<=(n:Int):=by omega
 have i4:(n:Int)<=(cap:Int):=by omega
 have i5:(k:Int)<=(cap:Int):=by omega
 have i6:((k:Int)==(k:Int)+1)=false:=by rw[g_];omega
 obtain⟨p,rfl⟩:∃p,n=p+1:=⟨n - 1,by omega⟩;rw[show p+1 - 1=p from rfl];clear h hk hn HROW;go_enter func231,ntmps231
 go_upto_region 5 with fail
 have hpk:p+1 - (k+1)=p - k:=by omega
 rw[hpk]at HT2;have HFIT:Hid (k+(p - k)<=cap):=by show _<=_;omega
 have HPK:Hid (k+(p - k)=p):=by show _=_;omega
 have hkw:aB (fun _=>False) w w.drew:=(aB.refl _ _).drew;have HPR:=aC (HPRE.out w.drew hkw);have q1:p+1 - (k+1)=p - k:=hpk;have q2:(k:Int)<=(p:Int):=by omega
 have q3:k<=p:=by omega
 have q4:(p:Int)+1<=(cap:Int):=by omega
 have q5:(k:Int)+1<=(p:Int)+1:=by omega
 go_cut [0]from 8 to 26 (fun v2 w2=>v2= .slice (some ⟨g,0,none⟩) (k+(p - k)) cap/\w2.ownsRow 0 62 3 (.slice (some ⟨g,0,none⟩) (k+(p - k)) cap) (k+(p - k)) ((l.take k).flatMap aJ++(l.drop (k+1)).flatMap aJ)/\aB (·= g) w w2)
 case first=>
  by_cases hyc:cap=k+1
  ·have HD:Hid ((l.drop (k+1)).flatMap aJ=[]):=by show _=_;rw[List.drop_eq_nil_of_le (by have:=HLN.out;omega)];rfl
   obtain rfl:p=k:=by omega
   subst hyc;have q6:p+1 - (p+1)=0:=by omega
   have q7:p - p=0:=by omega
   go_still_tail 6,(by kernel_rfl)
   go_wp2_with (at_builtin;refine wpList_append_fits w.drew rfl _ _ _ rfl 0 62 iM 3 underlying58 hiM hzM1 g p (p+1) ((l.take p).flatMap aJ) rfl HPR.out ⟨g,0,none⟩ 0 0 [] rfl rfl (fun j u hj=>by simp at hj) (fun u hu=>by simp at hu) (by omega) ?_;intro w2 hown2 hgrow2)
   go_meet
   case rel=>
    refine⟨by first|rfl|(rw[HPK.out]),?_,(aB.refl _ _).drew.trans (aB.grown hgrow2 (fun r e=>by cases e;rfl))⟩;rw[HD.out];simpa using hown2
  ·have hy1:¬cap - (k+1)=0:=by omega
   have hy2:k+1 < cap:=by omega
   have hy3:(k:Int)+1 < (cap:Int):=by omega
   have HN3:Hid (∀j u,((l.drop (k+1)).flatMap aJ)[j]?= some u->w.drew.cell? ((⟨g,(k+1)*3,none⟩:Addr).add j)=some u):=fun j u hj=>by
    have e:(⟨g,(k+1)*3,none⟩:Addr).add j=⟨g,(k+1)*3+j,none⟩:=by unfold Addr.add;split<;>simp_all
    rw[e];exact HN2.out j u hj
   go_still_tail 6,(by kernel_rfl)
   go_wp2_with (at_builtin;refine wpList_append_fits w.drew rfl _ _ _ rfl 0 62 iM 3 underlying58 hiM hzM1 g k cap ((l.take k).flatMap aJ) rfl HPR.out ⟨g,(k+1)*3,none⟩ (p - k) (cap - (k+1)) ((l.drop (k+1)).flatMap aJ) rfl HT2.out HN3.out (iZ lA _) HFIT.out ?_;intro w2 hown2 hgrow2)
   go_meet
   case rel=>exact⟨by first|rfl|(rw[HPK.out]),hown2,(aB.refl _ _).drew.trans (aB.grown hgrow2 (fun r e=>by cases e;rfl))⟩
 case rest=>
  obtain⟨rfl,hown2,hk2⟩:=hcut
  rename World=>w2
  rw[HPK.out]at hown2 ⊢;have hcells:∀j,j < 3->(w2.cell? ⟨g,p*3+j,none⟩).isSome=true/\w2.frozen? ⟨g,p*3+j,none⟩=false:=fun j hj=>by
   obtain⟨hx,h2⟩:=hown2;rcases h2 with⟨h0,_⟩|⟨g',cap',cur,h0,hb,hcur,hnc,hcm,hcs,htk⟩
   ·cases h0
   ·cases h0
    have hbx:aD w2 g 62 cur:=hcur;obtain⟨v,hv⟩:=dN (cs:=cur) (i:=p*3+j) (by rw[hcs];omega);exact⟨by rw[hbx.cell hv];rfl,hbx.frozen _⟩
  obtain⟨w3,hw3⟩:∃w3,w2.setCells g (p*3) (aJ nZ)=w3:=⟨_,rfl⟩;have hclr:∀ty,(Builtin.clear_ #[58] ty #[.slice (some ⟨g,p*3,none⟩) 1 (cap - p)]).run prog w2= .ok (.tuple #[]) w3:=fun ty=>by
   rw[<-hw3];exact aBt w2 ty g (p*3) (cap - p) (fun j hj=>(hcells j hj).1) (fun j hj=>(hcells j hj).2)
  obtain⟨hown3,hk3⟩:=tS (aJ nZ) (p*3) w2 hown2 (a_ _);rw[hw3]at hown3 hk3;have HO3:=aC hown3;have HK3:Hid (aB (·= g) w w3):=hk2.trans hk3;have e0:(0:Int)<=(p:Int):=by omega
  have e1:(p:Int)<=((p+1:Nat):Int):=by omega
  have e2:((p+1:Nat):Int)<=(cap:Int):=by omega
  have e3:¬cap - p=0:=by omega
  have e4:p < cap:=by omega
  have e5:(p:Int) < (cap:Int):=by omega
  have e6:p+1 - p=1:=by omega
  clear hown2 hk2 hown3 hk3 hcells hw3 HCY HN2 HPRE HPR HRN HT1 HT2 HSP HFIT
  go_wp2_with fail
  go_ret;refine⟨_,rfl,rfl,?_,HK3.out⟩;rw[List.flatMap_append];exact HO3.out
theorem aKz{W:World}{g o:Nat}{u:Value}(j:Nat)(h:W.cell? ⟨g,o+j,none⟩=some u):W.cell? ((⟨g,o,none⟩:Addr).add j)=some u:=by
 have e:(⟨g,o,none⟩:Addr).add j=⟨g,o+j,none⟩:=by unfold Addr.add;split<;>simp_all
 rw[e];exact h
theorem aCm(X:Nat->Prop)(T:Nat)(room:Int)(l:List aL)(t:aL)(b:Nat)(w:World)(h:fH X w T room l)(hl:l.length<=100000000)(hb:aD w b 62 #[.string t.id,.int .i64 t.kind,.int .i64 t.arg]) :
  Calls prog 201 #[.pointer (some ⟨T,0,none⟩),.slice (some ⟨b,0,none⟩) 1 1] w fun e w'=>∃v,e= .returned v/\(v= .tuple #[]/\fH (fun g=>X g/\g < w.heap.size\/w.heap.size<=g) w' T room (l++ [t])/\aB X w w'):=by
 obtain⟨iT,hiT,hzT0,hzT1,hzT2⟩:=info_parts jU;obtain⟨tv,h1,h2,h3⟩:=h;obtain⟨a,c,hf⟩:=bG h3.1;subst hf;have y0:=h1.cell (o:=0) rfl;have f0:=h1.frozen 0;have HB1:=aC h1;have HR:=aC h3.1;have HX:=aC h3.2;have hTl:=h1.lt;have HNE:Hid ((Value.slice a l.length c).ownBlock≠some T):=bF h3.1 h1 (by decide);have HNW:Hid (∀j u,(aJ t)[j]?= some u->w.cell? ((⟨b,0,none⟩:Addr).add j)=some u):=fun j u hj=>by
  refine aKz j ?_;rw[Nat.zero_add];exact hb.cell (o:=j) (by simpa[aJ]using hj)
 clear h1 h3 hb;go_enter func201,ntmps201
 go_wp2_with (at_builtin;refine wpList_append_lies _ rfl _ _ _ rfl 0 62 iT _ 3 32 underlying58 hiT hzT0 hzT1 hzT2 rfl (by omega) (.slice a l.length c) l.length (l.flatMap aJ) rfl (by first|exact HR.out|exact HR.out.drew) ⟨b,0,none⟩ 1 1 (aJ t) rfl rfl (by first|exact HNW.out) (lA t) (by omega) (by unfold maxLen;omega) (by omega) (Nat.zero_le _) w.heap.size rfl ?_;intro g3 c3 w3 hown3 hgrow3 hat3 hlt3;have hb3:aD w3 T 175 #[.slice a l.length c,.int .i64 room]:=HB1.out.kept (aB.grown hgrow3 (X:=fun k=>(Value.slice a l.length c).ownBlock=some k) (fun r e=>e)) HNE.out;have y3:=hb3.cell (o:=0) rfl;have f3:=hb3.frozen 0)
 go_end0
 have kg:aB (fun k=>(Value.slice a l.length c).ownBlock=some k) w w3:=aB.grown hgrow3 (fun r e=>e);have ks:aB (·= T) w3 (w3.setCell ⟨T,0,none⟩ (.slice (some ⟨g3,0,none⟩) (l.length+1) c3)):=(aB.refl _ _).setCell (.inl (by rfl)) _;have hgT:g3≠T:=fun e=>by
  subst e;rcases hat3 with e|e
  ·exact HNE.out e
  ·omega
 refine⟨_,rfl,rfl,⟨_,hb3.setAt 0 _,.inl ⟨h2,hTl⟩,?_,fun g e=> ?_⟩,?_⟩
 ·rw[List.flatMap_append,f_,List.length_singleton]
  have e1: [t].flatMap aJ=aJ t:=by simp
  rw[e1];exact aP hown3 ks (fun g e h=>by simp[Value.ownBlock]at e;omega) (a_ _)
 ·obtain rfl:g3=g:=by simpa[Value.ownBlock]using e
  rcases hat3 with e|e
  ·exact .inl ⟨HX.out g3 e,(HR.out.lt g3 e).2⟩
  ·exact .inr (by omega)
 ·exact(kg.mono (fun b _ e=>HX.out b e)).trans (ks.mono (fun b _ e=>by subst e;exact h2))
theorem aAn(X:Nat->Prop)(T:Nat)(room:Int)(t:aL)(r:List aL)(w:World)(h:fH X w T room (t :: r))(hl:r.length<=190000000) :
  Calls prog 219 #[.pointer (some ⟨T,0,none⟩)] w fun e w'=>∃v,e= .returned v/\(v= .agg #[.string t.id,.int .i64 t.kind,.int .i64 t.arg]/\fH (fun g=>X g/\g < w.heap.size) w' T room r/\aB X w w'):=by
 obtain⟨tv,h1,h2,h3⟩:=h;obtain⟨g,c,hf,-,hgl⟩:=World.ownsRow.form h3.1 (by simp);subst hf;have hpg:X g:=h3.2 g rfl;have hTl:=h1.lt;have hgT:g≠T:=fun e=>(bF h3.1 h1 (by decide)) (by rw[e];rfl)
 obtain⟨V,hV⟩:∃V,w.alloc (Obj.cells #[.string ⟨#[]⟩,.int .i64 0,.int .i64 0] 62)=V:=⟨_,rfl⟩;have gV:Below w.heap.size w V:=by rw[<-hV];exact(e_ _ _).alloc (a_ _) _
 have sV:V.heap.size=w.heap.size+1:=by rw[<-hV];simp
 have rV:aD V w.heap.size 62 #[.string ⟨#[]⟩,.int .i64 0,.int .i64 0]:=by rw[<-hV];exact aD.new w _ _
 obtain⟨Z,hZ⟩:∃Z,V.alloc (Obj.cells #[.string t.id,.int .i64 t.kind,.int .i64 t.arg] 62)=Z:=⟨_,rfl⟩;have gVZ:Below V.heap.size V Z:=by rw[<-hZ];exact(e_ _ _).alloc (a_ _) _
 have sZ:Z.heap.size=w.heap.size+2:=by rw[<-hZ];simp[sV]
 have bZ:aD Z (w.heap.size+1) 62 #[.string t.id,.int .i64 t.kind,.int .i64 t.arg]:=by rw[<-hZ,<-sV];exact aD.new V _ _
 have rZ:aD Z w.heap.size 62 #[.string ⟨#[]⟩,.int .i64 0,.int .i64 0]:=rV.below gVZ rV.lt;have gZ:Below w.heap.size w Z:=gV.trans (gVZ.mono gV.size);have y0:V.cell? ⟨T,0,none⟩=some (.slice (some ⟨g,0,none⟩) (r.length+1) c):=(h1.below gV hTl).cell (o:=0) rfl;have y0':Z.cell? ⟨T,0,none⟩=some (.slice (some ⟨g,0,none⟩) (r.length+1) c):=(h1.below gZ hTl).cell (o:=0) rfl;have hcm:∀o u,(aJ t)[o]?= some u->V.cell? ⟨g,o,none⟩=some u:=fun o u ho=>by
  have:=h3.1.cells (g:=g) rfl _ u (dZ (sz:=3) (enc:=aJ) (fun _=>rfl) (t :: r) 0 t o u rfl ho);rw[dP]at this;refine(gV.cell (p:=⟨g,o,none⟩) hgl).trans ?_;simpa using this
 have m0:=hcm 0 _ rfl;have m1:=hcm 1 _ rfl;have m2:=hcm 2 _ rfl;have j2:(0:Int) < ((r.length+1:Nat):Int):=by omega
 have HD:Hid (Calls prog 231 #[.slice (some ⟨g,0,none⟩) (r.length+1) c,.int .i64 0,.int .i64 1] Z fun e w'=>∃v,e= .returned v/\(v= .slice (some ⟨g,0,none⟩) r.length c/\aD w' T 175 #[.slice (some ⟨g,0,none⟩) (r.length+1) c,.int .i64 room]/\w'.ownsRow 0 62 3 (.slice (some ⟨g,0,none⟩) r.length c) r.length (r.flatMap aJ)/\aB (·= g) Z w')):=by
  refine(aDn g c 0 (t :: r) t Z (aP h3.1 (aB.of_below gZ (X:=fun b=>w.heap.size<=b) (fun _ _ h=>h)) (fun g' e h=>by have:=(h3.1.lt g' e).2;omega) (a_ _)) rfl (by simp;omega)).mono ?_;rintro e w' ⟨v,rfl,rfl,h5,h6⟩;exact⟨_,rfl,by simp,(h1.below gZ hTl).kept h6 (fun e=>hgT e.symm),by simpa using h5,h6⟩
 have HGZ:=aC gZ;have HBZ:=aC bZ;have HRZ:=aC rZ;clear h1 h3 hcm gV gVZ gZ bZ rZ rV;go_enter func219,ntmps219
 go_upto_region 1 with fail
 try rw[hV]
 clear hV
 go_upto_region 2 with fail
 try rw[sV]
 try rw[hZ]
 clear hZ y0 m0 m1 m2
 go_upto_region 3 with(go_at_call 231;refine HD.out.mono ?_;rintro e w1 ⟨v1,rfl,rfl,hb1,hr1,hk1⟩;have y1:=hb1.cell (o:=0) rfl;have f1:=hb1.frozen 0)
 obtain⟨w2,hw2⟩:∃w2,w1.setCell ⟨T,0,none⟩ (.slice (some ⟨g,0,none⟩) r.length c)=w2:=⟨_,rfl⟩;have kS:aB (·= T) w1 w2:=by rw[<-hw2];exact(aB.refl _ _).setCell (.inl (by rfl)) _
 have hT2:aD w2 T 175 #[.slice (some ⟨g,0,none⟩) r.length c,.int .i64 room]:=by rw[<-hw2];exact hb1.setAt 0 _
 have hR2:=aP hr1 kS (fun g' e h=>by simp[Value.ownBlock]at e;omega) (a_ _);have k02:aB (fun b=>b=g\/b=T) w w2:=((aB.of_below HGZ.out (X:=fun b=>b=g\/b=T) (fun b h1 h2=>by omega)).andThen hk1 (fun b _ e=> .inl e)).andThen kS (fun b _ e=> .inr e);have b2:=(HBZ.out.kept hk1 (by omega)).kept kS (by omega);have r2:=(HRZ.out.kept hk1 (by omega)).kept kS (by omega);have HT2:=aC hT2;have HRW:=aC hR2;have HK2:=aC k02;have HR2:=aC r2;have fr:=r2.frozen;have n0:=b2.cell (o:=0) rfl;have n1:=b2.cell (o:=1) rfl;have n2:=b2.cell (o:=2) rfl;have z0:=r2.cell (o:=0) rfl;have z1:=r2.cell (o:=1) rfl;have z2:=r2.cell (o:=2) rfl
 try rw[hw2]
 clear hw2 b2 r2 hb1 hr1 hk1 y1 f1 kS hT2 hR2 k02
 go_wp2_with fail
 change bodyPost prog Tryz.f219 _ Exit.ret _ (dR w2 w.heap.size 0 (aJ t));have kP:aB (·= w.heap.size) w2 (dR w2 w.heap.size 0 (aJ t)):=jC (X:=fun x=>x=w.heap.size) (.inl rfl) _ _ _ (aB.refl _ _);have hbz:=lB (aJ t) HR2.out rfl;generalize dR w2 w.heap.size 0 (aJ t)=U at kP hbz ⊢;have hbv:aD U w.heap.size 62 #[.string t.id,.int .i64 t.kind,.int .i64 t.arg]:=hbz;have q0:=hbv.cell (o:=0) rfl;have q1:=hbv.cell (o:=1) rfl;have q2:=hbv.cell (o:=2) rfl;refine bodyPost_ret (v:= .agg #[.string t.id,.int .i64 t.kind,.int .i64 t.arg]) ?_ rfl ⟨_,rfl,rfl,⟨_,HT2.out.kept kP (by omega),⟨h2,hTl⟩,aP HRW.out kP (fun g' e h=>by simp[Value.ownBlock]at e;omega) (a_ _),fun g' e=> ?_⟩,(HK2.out.andThen kP (fun b hb e=>by omega)).mono (fun b _ e=>by rcases e with rfl|rfl;exact hpg;exact h2)⟩
 ·simp[results,results219,go_sem,q0,q1,q2]
 ·obtain rfl:g=g':=by simpa[Value.ownBlock]using e
  exact⟨hpg,hgl⟩
structure mC(N:Nat)(s:aE)(i j:Nat)(m:aI):Prop where
 shape:cX s
 small:dS N s
 le:N<=90000000
 known:iF s
 vals:s.values.length<=90000000
 few:∀x∈s.W,x.tasks.length<=100000000
 src:m.src=i
 dst:m.dst=j
 ne:i≠j
 hi:i < s.W.length
 hj:j < s.W.length
 told:m.kind=7->s.answers≠ []
 ans:∀a∈s.answers,(0<=a.many/\a.many<=90000000)/\(0<=a.sent/\a.sent<=90000000000000000)/\(0<=a.came/\a.came<=90000000000000000)
 nums:0<=m.sent/\m.sent<=1000000000/\0<=m.came/\m.came<=1000000000
theorem mC.link{N:Nat}{s:aE}{i j:Nat}{m:aI}(h:mC N s i j m){a b:Nat}(ha:a < s.W.length)(hb:b < s.W.length):∃ls l,s.links[a]?= some ls/\ls[b]?= some l/\l.known.toNat<=l.all.length/\l.all.length<=N:=by
 obtain⟨ls,hls⟩:∃ls,s.links[a]?= some ls:=⟨_,b_ (by rw[h.shape.llen];exact ha)⟩;have hlm:=d_ hls;obtain⟨l,hl⟩:∃l,ls[b]?= some l:=⟨_,b_ (by rw[h.shape.lrow ls hlm];exact hb)⟩;exact⟨ls,l,hls,hl,h.known ls hlm l (d_ hl),h.small.all ls hlm l (d_ hl)⟩
theorem rB{α:Type}(l:List α)(i:Nat)(a b:α):(l.set i a).set i b=l.set i b:=by simp
theorem wX(j:Nat){part:Nat->Nat}{w:World}{B M gw wc:Nat}{s:aE}{kv yv:Value}{xs:List XW}{y:cF}(h:aQ part w B s kv (.slice (some ⟨gw,0,none⟩) xs.length wc) yv M xs)(hy:s.W[j]?= some y)(hc:0<=y.came/\y.came<=1000000000) :
  Calls prog 200 #[.pointer (some ⟨gw,j*8,none⟩)] w fun e w'=>∃v,e= .returned v/\(v= .tuple #[]/\∃part' xs',aQ part' w' B {s with W:=s.W.set j {y with came:=y.came+1,black:=true}} kv (.slice (some ⟨gw,0,none⟩) xs.length wc) yv M xs'/\bD part part' w w'):=by
 have hjl:=(c_.1 hy).1;have hxl:=h.wlen;obtain⟨x,hx⟩:∃x,xs[j]?= some x:=⟨_,b_ (by omega)⟩;have hxw:=h.wat j x y hx hy;have hpg:part gw=7:=h.wrow.2 gw rfl;have a5:w.cell? ⟨gw,j*8+5,none⟩=some (.int .i64 y.came):=by
  have h1:=h.wrow.1.cells (g:=gw) rfl (j*8+5) _ (dZ (sz:=8) (enc:=dB) (fun _=>rfl) xs j x 5 _ hx rfl);rw[dP,hxw.1.came]at h1;exact h1
 have a6:w.cell? ⟨gw,j*8+6,none⟩=some (.bool y.black):=by
  have h1:=h.wrow.1.cells (g:=gw) rfl (j*8+6) _ (dZ (sz:=8) (enc:=dB) (fun _=>rfl) xs j x 6 _ hx rfl);rw[dP,hxw.1.black]at h1;exact h1
 obtain⟨cur,hcur⟩:∃cur,aD w gw 119 cur:=by
  obtain⟨cs,hcs⟩:=eO h.wrow.1 (g:=gw) rfl;exact⟨cs,hcs⟩
 have f5:=hcur.frozen (j*8+5);have f6:=hcur.frozen (j*8+6);have hwr:IntKind.i64.wrap (y.came+1)=y.came+1:=IntWalk.i64_in _ (by omega);obtain⟨Y,hY⟩:∃Y,(w.setCell ⟨gw,j*8+5,none⟩ (.int .i64 (y.came+1))).setCell ⟨gw,j*8+6,none⟩ (.bool true)=Y:=⟨_,rfl⟩;have kY:aB (·= gw) w Y:=by rw[<-hY];exact((aB.refl (·= gw) w).setCell (.inl (by rfl)) _).setCell (.inl (by rfl)) _
 have r1:=nP (x':={x with came:=y.came+1}) (u:= .int .i64 (y.came+1)) (o:=5) h.wrow.1 hx (by omega) rfl;have hl1:(xs.set j {x with came:=y.came+1}).length=xs.length:=List.length_set ..;have r1':(w.setCell ⟨gw,j*8+5,none⟩ (.int .i64 (y.came+1))).ownsRow 0 119 8 (.slice (some ⟨gw,0,none⟩) (xs.set j {x with came:=y.came+1}).length wc) (xs.set j {x with came:=y.came+1}).length ((xs.set j {x with came:=y.came+1}).flatMap dB):=by
  rw[hl1]at r1 ⊢;exact r1
 have r2:=nP (x':={x with came:=y.came+1,black:=true}) (u:= .bool true) (o:=6) r1' (i8 (by omega)) (by omega) rfl;rw[rB,hl1,hY]at r2;obtain⟨h2,hm2⟩:=h.renote (x':={x with came:=y.came+1,black:=true}) (y':={y with came:=y.came+1,black:=true}) hx hy ⟨rfl,rfl,rfl⟩ ⟨hxw.1.asked,hxw.1.sent,rfl,rfl⟩ ⟨rfl,rfl,rfl,rfl⟩ (kY.mono (fun b _ e=>by subst e;exact hpg)) r2;have HH:=aC h2;have HM:=aC hm2;clear h h2 hm2 hxw hcur r1 r1' r2 kY;go_enter func200,ntmps200
 go_wp2_with fail
 go_end0
 try rw[hY]
 exact⟨_,rfl,rfl,_,_,HH.out,HM.out⟩
theorem zA(j:Nat){part:Nat->Nat}{w:World}{B M gw wc:Nat}{s:aE}{kv yv:Value}{xs:List XW}{y:cF}(h:aQ part w B s kv (.slice (some ⟨gw,0,none⟩) xs.length wc) yv M xs)(hy:s.W[j]?= some y) :
  ∃xs',aQ (ext w part 0) (w.setCell ⟨gw,j*8+1,none⟩ (.bool false)) B {s with W:=s.W.set j {y with asked:=false}} kv (.slice (some ⟨gw,0,none⟩) xs.length wc) yv M xs'/\bD part (ext w part 0) w (w.setCell ⟨gw,j*8+1,none⟩ (.bool false))/\aB (·= gw) w (w.setCell ⟨gw,j*8+1,none⟩ (.bool false)):=by
 have hjl:=(c_.1 hy).1;have hxl:=h.wlen;obtain⟨x,hx⟩:∃x,xs[j]?= some x:=⟨_,b_ (by omega)⟩;have hxw:=h.wat j x y hx hy;have hpg:part gw=7:=h.wrow.2 gw rfl;have kY:aB (·= gw) w (w.setCell ⟨gw,j*8+1,none⟩ (.bool false)):=(aB.refl (·= gw) w).setCell (.inl (by rfl)) _;have r1:=nP (x':={x with asked:=false}) (u:= .bool false) (o:=1) h.wrow.1 hx (by omega) rfl;obtain⟨h2,hm2⟩:=h.renote (x':={x with asked:=false}) (y':={y with asked:=false}) hx hy ⟨rfl,rfl,rfl⟩ ⟨rfl,hxw.1.sent,hxw.1.came,hxw.1.black⟩ ⟨rfl,rfl,rfl,rfl⟩ (kY.mono (fun b _ e=>by subst e;exact hpg)) r1;exact⟨_,h2,hm2,kY⟩
theorem aLc(m:aI)(i j:Nat){part:Nat->Nat}{w:World}{B M N:Nat}{s:aE}{kv wv yv:Value}{xs:List XW}(h:aQ part w B s kv wv yv M xs)(hc:mC N s i j m)(hk:m.kind=1) :
  Calls prog 199 #[.pointer (some ⟨B,0,none⟩),.int .i64 (j:Int),.int .i64 (i:Int)] w fun e w'=>∃v,e= .returned v/\(v= .tuple #[]/\∃part' yv' xs',aQ part' w' B (aX s m) kv wv yv' M xs'/\bD part part' w w'):=by
 obtain⟨y,hy⟩:∃y,s.W[j]?= some y:=⟨_,b_ hc.hj⟩;have hxl:=h.wlen;have hjl:=hc.hj;obtain⟨x,hx⟩:∃x,xs[j]?= some x:=⟨_,b_ (by omega)⟩;obtain⟨gw,wc,hwf,-,hgw⟩:=World.ownsRow.form h.wrow.1 (by omega);subst hwf;obtain⟨ls,l,hls,hl,hkn,hall⟩:=hc.link hc.hj hc.hi;have hle:=hc.le;have hway:=hc.shape.way;have hym:=d_ hy;have hfew:=hc.few y hym;have hsent:=hc.small.sent y hym;have ht:=(h.wat j x y hx hy).2;have b3:w.cell? ⟨B,4,none⟩=some (.slice (some ⟨gw,0,none⟩) xs.length wc):=h.box.cell (o:=4) rfl;have a0:w.cell? ⟨gw,j*8,none⟩=some (.pointer (some ⟨x.T,0,none⟩)):=by
  have h1:=h.wrow.1.cells (g:=gw) rfl (j*8+0) _ (dZ (sz:=8) (enc:=dB) (fun _=>rfl) xs j x 0 _ hx rfl);rwa [dP]at h1
 have j1:(0:Int)<=(j:Int):=by omega
 have j2:(j:Int) < (xs.length:Int):=by omega
 have HI:=aC (qR (fun b=>part b=10+j) x.T s.room y.tasks w ht);have hcame:aX s m=match y.tasks with
   |[]=>aR s {aH with src:=(j:Int),dst:=(i:Int),kind:=3}
   |t :: r=>aR {s with W:=s.W.set j {y with tasks:=r}} {aH with src:=(j:Int),dst:=(i:Int),kind:=2,t:=t}:=by
  unfold aX;simp only[hk,if_true,hc.dst,hc.src,Int.toNat_natCast,hy,Option.getD_some];cases y.tasks<;>rfl
 have HCM:=aC hcame;have hij:=hc.ne;cases hyt:y.tasks with
 |nil=>
  rw[hyt]at HI HCM;have HSD:Hid (Calls prog 165 #[.pointer (some ⟨B,0,none⟩),.int .i64 (j:Int),.int .i64 (i:Int),.slice (some ⟨w.heap.size,0,none⟩) 1 1] (w.alloc (Obj.cells (aG {aH with kind:=3}) 124)) fun e w'=>∃v,e= .returned v/\(v= .tuple #[]/\∃part' yv' xs',aQ part' w' B (aX s m) kv (.slice (some ⟨gw,0,none⟩) xs.length wc) yv' M xs'/\bD part part' w w')):=by
   obtain⟨h3,hm3⟩:=h.later ((e_ _ _).alloc (a_ _) (Obj.cells (aG {aH with kind:=3}) 124));refine(oO j i {aH with kind:=3} w.heap.size h3 hls hl hij hkn (by omega) (by omega) (aD.new w _ _)).mono ?_;rintro e w' ⟨v,rfl,rfl,part',yv',h4,hm4⟩;refine⟨_,rfl,rfl,part',yv',xs,?_,hm3.trans hm4⟩;rw[HCM.out];show aQ part' w' B (aR _ _) _ _ _ _ _;rw[pH _ j i _ (by simp) rfl rfl];exact h4
  simp only[aH]at HSD;clear h ht hc HCM hcame;go_enter func199,ntmps199
  go_wp2_with (first
   |(go_at_call 97;refine HI.out.mono ?_;rintro e w1 ⟨rfl,hq⟩;obtain rfl:=hq.symm)
   |(go_at_call 165;refine HSD.out.mono ?_;rintro e w3 ⟨v3,rfl,rfl,hres⟩;have HRES:=aC hres;clear hres))
  refine bodyPost_ret (results_none rfl _ _ _) rfl ?_;exact⟨_,rfl,rfl,HRES.out⟩
 |cons t r=>
  rw[hyt]at HI HCM ht hfew;have hlr:r.length<=190000000:=by simp at hfew;omega
  have HTO:Hid (Calls prog 219 #[.pointer (some ⟨x.T,0,none⟩)] w fun e w'=>∃v,e= .returned v/\(v= .agg #[.string t.id,.int .i64 t.kind,.int .i64 t.arg]/\∃part',aQ part' w' B {s with W:=s.W.set j {y with tasks:=r}} kv (.slice (some ⟨gw,0,none⟩) xs.length wc) yv M xs/\bD part part' w w')):=by
   refine(aAn (fun b=>part b=10+j) x.T s.room t r w ht hlr).mono ?_;rintro e w' ⟨v,rfl,rfl,h1,h2⟩;obtain⟨h3,hm3⟩:=h.retasks (l:=r) hx hy h2 (h1.kept (aB.refl (fun _=>False) w') (fun b _ hb=>⟨fun h=>h,.inl hb⟩));exact⟨_,rfl,rfl,_,h3,hm3⟩
  have HSD:Hid (∀(U:World) (part1:Nat->Nat) (bb:Nat),bb=U.heap.size->aQ part1 U B {s with W:=s.W.set j {y with tasks:=r}} kv (.slice (some ⟨gw,0,none⟩) xs.length wc) yv M xs->bD part part1 w U->Calls prog 172 #[.pointer (some ⟨B,0,none⟩),.int .i64 (j:Int),.int .i64 (i:Int),.slice (some ⟨bb,0,none⟩) 1 1] (U.alloc (Obj.cells (aG {aH with kind:=2,t:=t}) 124)) fun e w'=>∃v,e= .returned v/\(v= .tuple #[]/\∃part' yv' xs',aQ part' w' B (aX s m) kv (.slice (some ⟨gw,0,none⟩) xs.length wc) yv' M xs'/\bD part part' w w')):=fun U part1 bb hbb hU hMU=>by
   subst hbb;obtain⟨h3,hm3⟩:=hU.later ((e_ _ _).alloc (a_ _) (Obj.cells (aG {aH with kind:=2,t:=t}) 124));refine(xW j i {aH with kind:=2,t:=t} U.heap.size h3 (y:={y with tasks:=r}) (i8 hjl) hls hl hij hkn (by omega) (by show s.way.length<=1000;omega) (aD.new U _ _) (gF (a_ _)) (.inl rfl) ⟨hsent.1,by have:=hsent.2;show y.sent<=_;omega⟩).mono ?_;rintro e w' ⟨v,rfl,rfl,part',yv',xs',h4,hm4⟩;refine⟨_,rfl,rfl,part',yv',xs',?_,(hMU.trans hm3).trans hm4⟩;rw[HCM.out];exact h4
  simp only[aH]at HSD;clear h ht hc HCM hcame;go_enter func199,ntmps199
  go_wp2_with (first
   |(go_at_call 97;refine HI.out.mono ?_;rintro e w1 ⟨rfl,hq⟩;obtain rfl:=hq.symm)
   |(go_at_call 219;refine HTO.out.mono ?_;rintro e w2 ⟨v2,rfl,rfl,part1,hx2,hm2⟩;have HX2:=aC hx2;have HM2:=aC hm2;clear hx2 hm2)
   |(go_at_call 172;refine(HSD.out _ part1 _ rfl HX2.out HM2.out).mono ?_;rintro e w3 ⟨v3,rfl,rfl,hres⟩;have HRES:=aC hres;clear hres))
  go_end0
  exact⟨_,rfl,rfl,HRES.out⟩
end Go.Proofs.YtfanaanofjhlkaaGreatDoor
