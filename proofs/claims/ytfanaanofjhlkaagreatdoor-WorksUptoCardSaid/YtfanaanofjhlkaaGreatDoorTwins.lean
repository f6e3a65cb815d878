import Derived.Test.YtfanaanofjhlkaaGreatDoorXAnswer
import Derived.Test.YtfanaanofjhlkaaGreatDoorFullB
import Derived.Test.YtfanaanofjhlkaaGreatDoorTakeV
import Derived.Test.YtfanaanofjhlkaaGreatDoorCalm
import Derived.Test.YtfanaanofjhlkaaGreatDoorMarkV
set_option maxHeartbeats 16000000
set_option maxRecDepth 100000
namespace Go.Proofs.YtfanaanofjhlkaaGreatDoor
open Go Go.RowKit Go.Maps Tryz
theorem aFt(i:Int)(w:World):Calls prog 23 #[.pointer none,.int .i64 i] w fun e w'=>e= .returned (.tuple #[.slice none 0 0,.int .i64 1])/\Below w.heap.size w w':=by
 go_enter func23,ntmps23
 go_wp2_with (first
  |(go_at_call 51;refine(mU none i w).mono ?_;rintro e w1 ⟨rfl,hw1⟩;have HW1:=aC hw1;clear hw1)
  |(go_at_call 45;refine(rL _ _).mono ?_;rintro e w4 ⟨rfl,hw4⟩;have HW4:=aC hw4;clear hw4))
 go_ret2
 have h1:Below w.heap.size w w1:=by rw[HW1.out];exact((e_ _ _).alloc (a_ _) _).alloc (by simp) _
 exact⟨rfl,by rw[HW4.out];exact h1.alloc h1.size _⟩
theorem aFp(a:Option Addr)(n c:Nat)(w:World):Calls prog 118 #[.slice a n c] w fun e w'=>e= .returned (.func (.func 173) #[] #[.pointer (some ⟨w.heap.size,0,none⟩)])/\w'=w.alloc (Obj.cells #[.slice a n c] 58):=by
 go_enter func118,ntmps118
 go_wp2_with fail
 go_ret;exact⟨rfl,rfl⟩
theorem aJp(X:Nat->Prop)(T:Nat)(room:Int)(l:List aL)(w:World)(ht:fH X w T room l):Calls prog 55 #[.pointer (some ⟨T,0,none⟩)] w fun e w'=>∃Bs v,e= .returned (.func (.func 173) #[] #[.pointer (some ⟨Bs,0,none⟩)])/\aD w' Bs 58 #[v]/\eV 3 aJ w' v l/\w.heap.size<=Bs/\Below w.heap.size w w':=by
 obtain⟨tv,hb,-,hr⟩:=ht;have hL:eV 3 aJ w tv l:=fR (sz:=3) (enc:=aJ) (fun _=>rfl) hr.1 rfl;obtain⟨ta,tc,rfl⟩:=bG hr.1;have b0:=hb.cell (o:=0) rfl;have HL:=aC hL;clear hb hr hL;go_enter func55,ntmps55
 go_wp2_with (go_at_call 118;refine(aFp _ _ _ w).mono ?_;rintro e w1 ⟨rfl,hw1⟩;have HW1:=aC hw1;clear hw1)
 go_ret;have h1:Below w.heap.size w w1:=by rw[HW1.out];exact(e_ _ _).alloc (a_ _) _
 exact⟨_,_,rfl,by rw[HW1.out];exact aD.new w _ _,HL.out.below h1 (a_ _),a_ _,h1⟩
theorem vR(F:Nat->Prop)(B:Nat)(s:aE)(i:Int)(w:World)(hx:bK F w B s)(hf:kD s) :
  Calls prog 23 #[.pointer (some ⟨B,0,none⟩),.int .i64 i] w fun e w'=>∃v,e= .returned (.tuple #[v,.int .i64 (eY s i).2])/\
   w'.ownsRow w.heap.size 62 3 v (eY s i).1.length ((eY s i).1.flatMap aJ)/\Below w.heap.size w w':=by
 obtain⟨w1,hw1⟩:∃w1,(w.alloc (Obj.cells #[.pointer (some ⟨B,0,none⟩)] 36)).alloc (Obj.cells #[.int .i64 i] 3)=w1:=⟨_,rfl⟩;obtain⟨w4,hw4⟩:∃w4,w1.alloc (Obj.cells #[eH (110,#[],#[.pointer (some ⟨w.heap.size+1,0,none⟩),.pointer (some ⟨w.heap.size,0,none⟩)])] 94)=w4:=⟨_,rfl⟩;have g1:Below w.heap.size w w1:=by rw[<-hw1];exact((e_ _ _).alloc (a_ _) _).alloc (by simp) _
 have g4:Below w1.heap.size w1 w4:=by rw[<-hw4];exact(e_ _ _).alloc (a_ _) _
 have hA:fF w4 w.heap.size (w.heap.size+1) B i:=by
  have h:fF w1 w.heap.size (w.heap.size+1) B i:=⟨by rw[<-hw1];exact(aD.new w _ _).alloc _,by rw[<-hw1];exact fM _ _ _ _ (by simp)⟩;exact h.below g4
 have bL:aD w4 w1.heap.size 94 #[eH (110,#[],#[.pointer (some ⟨w.heap.size+1,0,none⟩),.pointer (some ⟨w.heap.size,0,none⟩)])]:=by rw[<-hw4];exact aD.new w1 _ _
 have hb4:Below w.heap.size w w4:=g1.trans (g4.mono g1.size);have hx4:bK F w4 B s:=hx.later hb4;have hlen:=hf.len;have key:Calls prog 45 #[.pointer (some ⟨B,0,none⟩),.slice (some ⟨w1.heap.size,0,none⟩) 1 1] w4 fun e w'=>∃r,e= .returned (.int .i64 r)/\r=(if i < 0\/s.workers<=i then(7:Int)else 0)/\Below w4.heap.size w4 w':=by
  refine rD B _ w4 (fun r w'=>r=(if i < 0\/s.workers<=i then(7:Int)else 0)/\Below w4.heap.size w4 w') ?_;refine(qJ w1.heap.size 1 1 [(110,#[],#[.pointer (some ⟨w.heap.size+1,0,none⟩),.pointer (some ⟨w.heap.size,0,none⟩)])] w4 rfl (by omega)
   (fun j W=>if j=0 then Below w4.heap.size w4 W else 0=(if i < 0\/s.workers<=i then(7:Int)else 0)/\Below w4.heap.size w4 W) (fun r W=>r=(if i < 0\/s.workers<=i then(7:Int)else 0)/\Below w4.heap.size w4 W) ?_ ?_ ?_ ?_).mono ?_
  ·intro j W hJ f hf
   match j,hf with
   |0,hf=>cases hf;simp only[if_true]at hJ;exact(bL.below hJ bL.lt).cell (o:=0) rfl
   |(m+1),hf=>simp at hf
  ·intro f hf args W
   simp at hf;subst hf;exact enters_of func110 (by kernel_rfl) rfl args W
  ·intro j f hfj W hJ
   match j,hfj with
   |0,hfj=>
    cases hfj;simp only[if_true]at hJ;refine(oD F B w.heap.size (w.heap.size+1) s i W (hx4.later hJ) hf (hA.below hJ)).mono ?_;rintro e w' ⟨rfl,hbw⟩;have hbUw:Below w4.heap.size w4 w':=hJ.trans (hbw.mono hJ.size);by_cases hin:i < 0\/s.workers<=i
    ·exact⟨7,by rw[if_pos hin],.inr ⟨by omega,by rw[if_pos hin],hbUw⟩⟩
    ·exact⟨0,by rw[if_neg hin],.inl ⟨rfl,by simp only[Nat.zero_add,Nat.one_ne_zero,if_false];exact⟨by rw[if_neg hin],hbUw⟩⟩⟩
   |(m+1),hfj=>simp at hfj
  ·exact e_ _ _
  ·rintro e w' ⟨r,rfl,hr⟩
   refine⟨r,rfl,?_⟩;rcases hr with⟨rfl,h2⟩|⟨_,h2⟩
   ·simpa using h2
   ·exact h2
 have HKEY:=aC key;have HW1:=aC hw1;have HW4:=aC hw4;have HB4:=aC hb4;clear key hw1 hw4 hA bL hb4 g1 g4;by_cases hin:i < 0\/s.workers<=i
 ·have ht:eY s i=([],7):=by unfold eY;rw[if_pos hin]
  rw[ht];rw[if_pos hin]at HKEY;clear ht hx hx4 hf hin hlen;go_enter func23,ntmps23
  go_wp2_with (first
   |(go_at_call 51;refine(mU (some ⟨B,0,none⟩) i w).mono ?_;rintro e a1 ⟨rfl,hq⟩;obtain rfl:w1=a1:=HW1.out.symm.trans hq.symm;clear hq)
   |(go_at_call 45;refine Calls.at_world HW4.out ?_;refine HKEY.out.mono ?_;rintro e a4 ⟨r,rfl,rfl,k2⟩))
  go_ret2
  exact⟨_,rfl,World.ownsRow_nil _ _ _ _,HB4.out.trans (k2.mono HB4.out.size)⟩
 ·obtain⟨k,rfl⟩:=Int.eq_ofNat_of_zero_le (show 0<=i by omega)
  obtain⟨x,hxk⟩:∃x,s.W[k]?= some x:=⟨_,b_ (by omega)⟩;have ht:eY s (k:Int)=(x.tasks,0):=by unfold eY;rw[if_neg hin];simp[hxk]
  have hxl:(x.tasks.length:Int)<=20:=by have h1:=hf.few x (d_ hxk);have:=hf.rmax;omega
  rw[ht];rw[if_neg hin]at HKEY;obtain⟨part,kv,yv,g,c,M,T,xs,y,-,h,-,-,htl,hc,hkl⟩:=nE hx hxk;have hb:=h.box;have hrw:=h.wrow;clear h;have hgl:=(hrw.1.lt g rfl).2;have HB:=aC hb;have HTL:=aC htl;have HC:=aC hc;have hbl:=hb.lt;have j1:(0:Int)<=(k:Int):=by omega
  have j2:(k:Int) < (xs.length:Int):=by omega
  clear ht hx hx4 hf hin hlen hb htl hc hrw hxk;go_enter func23,ntmps23
  go_upto_region 4 with(first
   |(go_at_call 51;refine(mU (some ⟨B,0,none⟩) k w).mono ?_;rintro e a1 ⟨rfl,hq⟩;obtain rfl:w1=a1:=HW1.out.symm.trans hq.symm;clear hq)
   |(go_at_call 45;refine Calls.at_world HW4.out ?_;refine HKEY.out.mono ?_;rintro e w5 ⟨r,rfl,rfl,k2⟩))
  have hb5:Below w.heap.size w w5:=HB4.out.trans (k2.mono HB4.out.size);have s5:=hb5.size;have b3:=(HB.out.below hb5 hbl).cell (o:=4) rfl;have e0:=(hb5.cell (p:=⟨g,k*8,none⟩) hgl).trans HC.out;have HB5:=aC hb5;have HALL:=aC (aJp _ T s.room x.tasks w5 (HTL.out.kept (aB.of_below hb5 (X:=fun b=>w.heap.size<=b) (fun _ _ h=>h)) (fun g hg h=>⟨by omega,h⟩)));have HCO:Hid (∀w6 Bs v6,aD w6 Bs 58 #[v6]->eV 3 aJ w6 v6 x.tasks->Calls prog 54 #[.func (.func 173) #[] #[.pointer (some ⟨Bs,0,none⟩)]] w6 fun e w'=>∃v,e= .returned v/\w'.ownsRow w6.heap.size 62 3 v x.tasks.length (x.tasks.flatMap aJ)/\Below w6.heap.size w6 w'):=fun w6 Bs v6 hBs hL6=>by
   refine vW _ _ x.tasks w6 (by omega) (enters_of func173 (by kernel_rfl) rfl) (fun n X W hW hX=>aEz n Bs X v6 x.tasks W (hBs.below hW hBs.lt) (hL6.below hW (a_ _)) (fun g' o m c' e hm hXg=> ?_) (by omega));obtain⟨a9,c9,h9,hc9⟩:=hL6;rw[h9]at e;simp only[Value.slice.injEq]at e;obtain⟨g9,o9,ha9,hg9,_⟩:=hc9 0 _ (b_ (show 0 < x.tasks.length by omega));rw[ha9]at e;have:=hX g' hXg;simp at e
  clear k2 hb5
  go_wp2_with (first
   |(go_at_call 55;refine HALL.out.mono ?_;rintro e w6 ⟨Bs,v6,rfl,hBs,hL6,hBl,hb6⟩)
   |(go_at_call 54;refine(HCO.out w6 Bs v6 hBs hL6).mono ?_;rintro e w7 ⟨v7,rfl,hrow7,hb7⟩))
  go_ret2
  have s6:=hb6.size;refine⟨_,rfl,iX hrow7 (by omega),(HB5.out.trans (hb6.mono s5)).trans (hb7.mono (by omega))⟩
end Go.Proofs.YtfanaanofjhlkaaGreatDoor
namespace Go.Proofs.YtfanaanofjhlkaaGreatDoor
open Go Go.RowKit Tryz
theorem mV(F:Nat->Prop)(B N came:Nat)(w:World)(hI:eU F w B N came)(hN:N<=300000000000) :
  Calls prog 32 #[.pointer (some ⟨B,0,none⟩)] w fun e w'=>e= .returned (.bool true)/\Below w.heap.size w w':=by
 obtain⟨lab,kV,wV,kT,wT,kM,wM,lV,lT,lM,bs,hlab,hbs,hX,⟨hkV,-,hwV,-,hnV⟩,⟨hkT,-,hwT,-,hnT⟩,⟨hkM,-,hwM,-,hnM⟩⟩:=hI;obtain⟨vA,hbx,hr,-,-,hmk⟩:=hX;have HBX:Hid (∀W,Below w.heap.size w W->aD W B 71 (eA N came kV wV kT wT kM wM vA)):=fun W hW=>hbx.below hW hbx.lt
 have HR:Hid (∀W,Below w.heap.size w W->W.ownsRow 0 143 4 vA bs.length (eD bs)):=fun W hW=>gP hr hW (fun g e=>(hr.lt g e).2)
 have HM:Hid (∀W,Below w.heap.size w W->∀x∈bs,eT W (fun b _=>lab b=1) x):=fun W hW x hx=>(hmk x hx).kept (aB.of_below hW (X:=fun b=>w.heap.size<=b) (fun _ _ h=>h)) (fun g n t cs _ hb _ h=>by have:=hb.lt;omega) (fun _ _ _ _ _ _ h=>h)
 have b3:=hbx.cell (o:=3) rfl;have b4:=hbx.cell (o:=4) rfl;have HS1:Hid (∀W,Below w.heap.size w W->Calls prog 71 #[kV,wV] W fun e w'=>∃v,e= .returned v/\v= .bool true/\Below w.heap.size w w'):=fun W hW=>
  (qM _ _ lV W ((fR (sz:=2) (enc:=dL) (fun _=>rfl) hkV rfl).below hW (a_ _)) ((fR (sz:=2) (enc:=dL) (fun _=>rfl) hwV rfl).below hW (a_ _)) (by omega)).mono fun e w' h=>⟨_,h.1,rfl,hW.trans (h.2.mono hW.size)⟩
 have HS2:Hid (∀W,Below w.heap.size w W->Calls prog 65 #[kT,wT] W fun e w'=>∃v,e= .returned v/\v= .bool true/\Below w.heap.size w w'):=fun W hW=>
  (qL _ _ lT W ((fR (sz:=3) (enc:=aJ) (fun _=>rfl) hkT rfl).below hW (a_ _)) ((fR (sz:=3) (enc:=aJ) (fun _=>rfl) hwT rfl).below hW (a_ _)) (by omega)).mono fun e w' h=>⟨_,h.1,rfl,hW.trans (h.2.mono hW.size)⟩
 have HS3:Hid (∀W,Below w.heap.size w W->Calls prog 68 #[kM,wM] W fun e w'=>∃v,e= .returned v/\v= .bool true/\Below w.heap.size w w'):=fun W hW=>
  (qK _ _ lM W ((fR (sz:=15) (enc:=aK) (fun _=>rfl) hkM rfl).below hW (a_ _)) ((fR (sz:=15) (enc:=aK) (fun _=>rfl) hwM rfl).below hW (a_ _)) (by omega)).mono fun e w' h=>⟨_,h.1,rfl,hW.trans (h.2.mono hW.size)⟩
 have hbn:bs.length<=1200000000000:=by omega
 clear hkV hwV hkT hwT hkM hwM hbx hr hmk hlab hbs;go_enter func32,ntmps32
 go_upto_region 1 with fail
 go_cut [3] (fun s wx=>s= .bool true/\Below w.heap.size w wx)
 case first=>
  go_region_law (refine dY (by rfl) 71 _ _ _ (by rfl) kV wV (by rfl) (by rfl) (enters_of func71 (by kernel_rfl) rfl) (HS1.out _ (by first|exact e_ _ _|exact(e_ _ _).drew)) ?_;rintro v9 w9 ⟨rfl,hb9⟩)
  all_goals
   go_wp2_with fail
   go_meet
   case rel=>exact⟨rfl,by assumption⟩
 case rest=>
  obtain⟨rfl,hw1⟩:=hcut
  rename World=>w1
  have hbx1:=HBX.out w1 hw1;clear b3 b4;have b5:=hbx1.cell (o:=5) rfl;have b6:=hbx1.cell (o:=6) rfl;clear hbx1
  go_upto_region 2 with fail
  go_cut [4] (fun s wx=>s= .bool true/\Below w.heap.size w wx)
  case first=>
   go_region_law (refine dY (by rfl) 65 _ _ _ (by rfl) kT wT (by rfl) (by rfl) (enters_of func65 (by kernel_rfl) rfl) (HS2.out _ (by first|exact hw1|exact hw1.drew)) ?_;rintro v9 w9 ⟨rfl,hb9⟩)
   all_goals
    go_wp2_with fail
    go_meet
    case rel=>exact⟨rfl,by assumption⟩
  case rest=>
   obtain⟨rfl,hw2⟩:=hcut
   rename World=>w2
   have hbx2:=HBX.out w2 hw2;clear b5 b6;have b7:=hbx2.cell (o:=7) rfl;have b8:=hbx2.cell (o:=8) rfl;clear hbx2
   go_upto_region 3 with fail
   go_cut [5] (fun s wx=>s= .bool true/\Below w.heap.size w wx)
   case first=>
    go_region_law (refine dY (by rfl) 68 _ _ _ (by rfl) kM wM (by rfl) (by rfl) (enters_of func68 (by kernel_rfl) rfl) (HS3.out _ (by first|exact hw2|exact hw2.drew)) ?_;rintro v9 w9 ⟨rfl,hb9⟩)
    all_goals
     go_wp2_with fail
     go_meet
     case rel=>exact⟨rfl,by assumption⟩
   case rest=>
    obtain⟨rfl,hw3⟩:=hcut
    rename World=>w3
    have hr3:=HR.out w3 hw3;have hbx3:=HBX.out w3 hw3;obtain⟨aA,cA,hvA⟩:=bG hr3;subst hvA;have HB3:Hid (aD w3 B 71 (eA N came kV wV kT wT kM wM (.slice aA bs.length cA))):=hbx3;have HR3:Hid (w3.ownsRow 0 143 4 (.slice aA bs.length cA) bs.length (eD bs)):=hr3;have HM3:Hid (∀x∈bs,eT w3 (fun b _=>lab b=1) x):=HM.out w3 hw3;have b2:=hbx3.cell (o:=2) rfl;have b9:=hbx3.cell (o:=9) rfl;clear b7 b8 hr3 hbx3
    go_wp2_with fail
    go_loopw [6] (fun i wr=>∃k:Nat,k<=bs.length/\i= .int .i64 k/\Below w3.heap.size w3 wr) (fun i _=>bs.length - (intOf i).toNat)
    case atStart=>exact⟨0,Nat.zero_le _,rfl,e_ _ _⟩
    case round=>
     obtain⟨k,hk,rfl,hbw⟩:=hrel
     rename World=>wr
     have hbx:=HB3.out.below hbw HB3.out.lt;clear b9 b2;have b9:=hbx.cell (o:=9) rfl;clear hbx;have HBW:Hid (Below w3.heap.size w3 wr):=hbw;by_cases hlt:k < bs.length
     ·obtain⟨x,hx⟩:∃x,bs[k]?= some x:=⟨_,b_ hlt⟩
      obtain⟨g,cap,hgf,hg1,hg2⟩:=World.ownsRow.form HR3.out (by omega);obtain⟨g0,g1,g2',g3⟩:=aHd bs k x hx;cases hgf;have hcell:∀j u,(eD bs)[j]?= some u->wr.cell? ⟨g,j,none⟩=some u:=fun j u hj=>by
       have h1:=HR3.out.cells (g:=g) rfl j u hj;rw[Addr.add_lit,Nat.zero_add]at h1;exact(hbw.cell (p:=⟨g,j,none⟩) hg2).trans h1
      have y0:=hcell _ _ g0;have y1:=hcell _ _ g1;have y2:=hcell _ _ g2';have y3:=hcell _ _ g3;have hmk:eT wr (fun b _=>lab b=1) x:=(HM3.out x (d_ hx)).kept (aB.of_below hbw (X:=fun b=>w3.heap.size<=b) (fun _ _ h=>h)) (fun g n t cs _ hb _ h=>by have:=hb.lt;omega) (fun _ _ _ _ _ _ h=>h);have HMK:Hid (eT wr (fun b _=>lab b=1) x):=hmk;obtain⟨x1,xV,xT,xM⟩:=x;obtain⟨⟨a1,n1,c1,h1,-⟩,⟨a2,n2,c2,h2,-⟩,⟨a3,n3,c3,h3,-⟩⟩:=hmk;dsimp only at h1 h2 h3;subst h1 h2 h3;dsimp only at y0 y1 y2 y3;have i1:(0:Int)<=(k:Int):=by omega
      have i2:(k:Int) < (bs.length:Int):=by omega
      clear hcell g0 g1 g2' g3 hbw
      go_wp2_with (go_at_call 81;refine(aGt _ _ wr HMK.out).mono ?_;rintro e w9 ⟨rfl,hb9⟩)
      go_roundw
      case rel=>exact⟨k+1,by omega,by go_num,HBW.out.trans (hb9.mono HBW.out.size)⟩
      case measure=>simp[intOf];omega
     ·go_wp2_with fail
      go_ret;exact⟨rfl,hw3.trans (HBW.out.mono hw3.size)⟩
def eS(m:aI):Nat:=if m.kind=6\/m.kind=7 then 1 else 0
theorem xU(f:aI->Nat)(s:aE)(i j:Nat)(l:aO):total f (aZ s i j l)+eG f (aF s i j)<=total f s+eG f l:=by
 have h0:eG f cN=0:=by simp[eG,cN]
 unfold total aZ aF;dsimp only;by_cases hi:i < s.links.length
 ·have e:=oM (fun ls=>(ls.map (eG f)).sum) s.links i ((s.links[i]?.getD []).set j l) _ (b_ hi)
  rw[b_ hi]at e ⊢;simp only[Option.getD_some]at e ⊢;by_cases hj:j < s.links[i].length
  ·have e2:=oM (eG f) s.links[i] j l _ (b_ hj)
   rw[b_ hj,Option.getD_some];omega
  ·have e5:s.links[i].set j l=s.links[i]:=List.set_eq_of_length_le (by omega)
   have e6:s.links[i][j]?= .none:=List.getElem?_eq_none (by omega);rw[e5]at e ⊢;rw[e6,Option.getD_none];omega
 ·have e6:s.links[i]?= .none:=List.getElem?_eq_none (by omega)
  have e5:∀x,s.links.set i x=s.links:=fun x=>List.set_eq_of_length_le (by omega)
  rw[e5,e6,Option.getD_none,List.getElem?_nil,Option.getD_none];omega
structure cH(e:Nat)(s:aE):Prop where
 none:s.answers=[]->total eS s+e=0
 many:∀L b,s.answers=L++ [b]->b.many+(total eS s+e:Nat)<=s.workers
section
variable {e:Nat} {s:aE}
theorem cH.of(h:cH e s){e':Nat}{s':aE}(h1:s'.answers=s.answers)(h2:s'.workers=s.workers)(h3:total eS s'+e'<=total eS s+e):cH e' s':=by
 refine⟨fun q=> ?_,fun L b q=> ?_⟩
 ·have:=h.none (by rw[<-h1];exact q)
  omega
 ·have:=h.many L b (by rw[<-h1];exact q)
  omega
theorem cH.send(h:cH e s)(m:aI){e':Nat}(he:eS m+e'=e:=by rfl):cH e' (aR s m):=by
 refine h.of (pC s m).1 (qE s m) ?_;have e:=xU eS s m.src.toNat m.dst.toNat {aF s m.src.toNat m.dst.toNat with all:=(aF s m.src.toNat m.dst.toNat).all++ [{m with no:=(aF s m.src.toNat m.dst.toNat).all.length+1}]};have e2:total eS (aR s m)=total eS (aZ s m.src.toNat m.dst.toNat {aF s m.src.toNat m.dst.toNat with all:=(aF s m.src.toNat m.dst.toNat).all++ [{m with no:=(aF s m.src.toNat m.dst.toNat).all.length+1}]}):=by
  apply mX;unfold aR cB;dsimp only;split<;>split<;>rfl
 have e3:eG eS {aF s m.src.toNat m.dst.toNat with all:=(aF s m.src.toNat m.dst.toNat).all++ [{m with no:=(aF s m.src.toNat m.dst.toNat).all.length+1}]}<=eG eS (aF s m.src.toNat m.dst.toNat)+eS m:=by
  unfold eG;dsimp only;rw[List.drop_append,List.map_append,List.sum_append];refine Nat.add_le_add_left ?_ _;cases(aF s m.src.toNat m.dst.toNat).came.toNat - (aF s m.src.toNat m.dst.toNat).all.length with
  |zero=>simp[eS]
  |succ n=>simp
 rw[e2];omega
theorem cH.rest(h:cH e s){s':aE}(h1:s'.answers=s.answers:=by rfl)(h2:s'.workers=s.workers:=by rfl)(h3:s'.links=s.links:=by rfl):cH e s':=h.of h1 h2 (by rw[mX eS h3];exact a_ _)
theorem cH.way(h:cH e s)(m:aI):cH e (cB s m):=by
 unfold cB;split
 ·exact h.rest
 ·exact h
theorem cH.noted(h:cH (e+1) s)(a b:Int)(c:Bool):cH e (dA s a b c):=by
 unfold dA;split
 ·exact h.of rfl rfl (by omega)
 ·rename_i y hy
  obtain⟨L0,hL0⟩:=List.getLast?_eq_some_iff.1 hy;have h1:=h.many L0 y hL0;have h2:total eS {s with answers:=s.answers.dropLast++ [⟨y.many+1,y.sent+a,y.came+b,y.idle&&c⟩]}=total eS s:=mX eS rfl;refine⟨fun q=>by simp at q,fun L b' q=> ?_⟩;have h3:=(List.append_inj' q rfl).2;simp at h3;rw[h2,<-h3];dsimp only;omega
theorem cH.came{m:aI}(h:cH (eS m) s):cH 0 (aX s m):=by
 have hz:∀{k:Int},m.kind=k->¬(k=6\/k=7)->cH 0 s:=fun hk hn=>by
  have:eS m=0:=by rw[eS,hk,if_neg hn]
  rw[this]at h;exact h
 unfold aX;dsimp only;split
 ·rename_i h1
  have h0:=hz h1 (by decide);split
  ·exact h0.send _
  ·exact(h0.rest (s':=_)).send _
 ·split
  ·rename_i h1
   exact(hz h1 (by decide)).rest
  ·split
   ·rename_i h1
    exact(hz h1 (by decide)).rest
   ·split
    ·rename_i h1
     exact(hz h1 (by decide)).rest
    ·split
     ·rename_i h1
      exact(hz h1 (by decide)).rest
     ·split
      ·rename_i h1
       have:eS m=1:=by rw[eS,if_pos (.inl h1)]
       rw[this]at h;exact h.send _
      ·split
       ·rename_i h1
        have:eS m=1:=by rw[eS,if_pos (.inr h1)]
        rw[this]at h;exact h.noted _ _ _
       ·exact h.of rfl rfl (by omega)
theorem cH.relink(h:cH e s)(i j:Nat){l:aO}(ha:l.all=(aF s i j).all)(hc:l.came=(aF s i j).came):cH e (aZ s i j l):=by
 refine h.of rfl rfl ?_;have h1:=xU eS s i j l;have h2:eG eS l=eG eS (aF s i j):=by rw[eG,ha,hc,<-eG]
 omega
theorem cH.come{i j:Nat}:∀(f d N:Nat) (s:aE),cH 0 s->aN N s->i < s.W.length->j < s.W.length->N+d<=90000000->(∀n∈(aF s i j).kept,n<=(aF s i j).came+d)->cH 0 (fQ f s i j):=by
 intro f
 induction f with
 |zero=>intro d N s ho _ _ _ _ _;exact ho
 |succ f ih=>
  intro d N s ho h hi hj hN hd;unfold fQ;split
  ·rename_i hb
   obtain⟨h1,h2,h3,h4⟩:=h.step (by omega) hi hj hb;have hd1:=hd _ h4;refine ih (d - 1) (N+1) _ ?_ h1 (by omega) (by omega) (by omega) (fun n hn=>by rw[h2]at hn ⊢;have:=hd n hn;dsimp only;omega);have hl:=h.links i j hi hj;have hk:=hl.kept _ h4;have hc:=hl.came;have hg:(aF s i j).all[(aF s i j).came.toNat]?= some ((aF s i j).all[(aF s i j).came.toNat]'(by omega)):=b_ _;unfold fU;rw[hg,Option.getD_some];have h5:=tR eS h hi hj hg;exact(ho.of (s':=aZ s i j {aF s i j with came:=(aF s i j).came+1}) rfl rfl (Nat.le_of_eq h5)).came
  ·exact ho
theorem cH.deliver{N:Nat}(ho:cH 0 s)(h:aN N s)(hN:N+5<=90000000)(k:Int):cH 0 (eB s k).1:=by
 unfold eB;split
 ·exact ho
 ·rename_i hme
  obtain⟨h0,h1⟩:=nN hme;have hg:s.way[k.toNat]?= some (s.way[k.toNat]'(by omega)):=b_ _;have hw:=h.ways _ (d_ hg);rw[hg];dsimp only[Option.getD_some];generalize s.way[k.toNat]=m at hw ⊢;have hu:=h.unway k.toNat;have hou:cH 0 {s with way:=s.way.take k.toNat++s.way.drop (k.toNat+1)}:=ho.rest;obtain⟨hsl,hse⟩:=h.nat hw.src.1 hw.src.2;obtain⟨hdl,hde⟩:=h.nat hw.dst.1 hw.dst.2;split
  ·split
   ·exact hou.relink _ _ rfl rfl
   ·exact hou
  ·rename_i hk0
   obtain⟨n,hn,hne⟩:=hw.sent hk0;have hnl:=(c_.1 hne).1;have hkp:=hu.keep hsl hdl (n:=m.no) (by rw[hn];show(n:Int)+1<=((aF s m.src.toNat m.dst.toNat).all.length:Int);omega);exact(cH.come _ 4 _ _ (hou.relink m.src.toNat m.dst.toNat (l:=bI _ m.no) (by unfold bI;split<;>rfl) (by unfold bI;split<;>rfl)) hkp hsl hdl (by omega) (fun a ha=>((hkp.links _ _ hsl hdl).kept a ha).2.2)).way _
theorem cH.steal(ho:cH 0 s)(i v:Int):cH 0 (eE s i v).1:=by
 unfold eE;dsimp only
 repeat' split
 all_goals first|exact ho|exact(ho.rest (s':=_)).send _
theorem cH.work(ho:cH 0 s)(i:Int):cH 0 (cJ s i).1:=by
 unfold cJ;dsimp only
 repeat' split
 all_goals first|exact ho|exact ho.rest|exact(ho.rest (s':=_)).send _
theorem cH.drop(ho:cH 0 s)(k:Int):cH 0 (fX s k).1:=by
 unfold fX;split
 ·exact ho
 ·exact ho.rest
theorem cH.twice(ho:cH 0 s)(k:Int):cH 0 (fS s k).1:=by
 unfold fS;split
 ·exact ho
 ·exact ho.way _
theorem cH.again:∀(L:List aO) (s:aE),cH 0 s->cH 0 (L.foldl dO s)
 |[],_,h=>h
 |l :: L,s,h=>by
  rw[List.foldl_cons];refine cH.again L _ ?_;unfold dO;split
  ·exact h.way _
  ·exact h
theorem cH.tick(ho:cH 0 s)(i:Int):cH 0 (fV s i).1:=by
 unfold fV;split
 ·exact ho
 ·exact cH.again _ _ ho
theorem cH.pass(ho:cH 0 s)(i:Int):cH 0 (eL s i).1:=by
 unfold eL;split
 ·exact ho
 ·split
  ·exact ho
  ·rename_i x _
   split
   ·exact ho
   ·exact(ho.send {aH with src:=i,dst:=i - 1,kind:=5,count:=x.token.count+x.sent - x.came,black:=x.token.black||x.black}).rest
theorem cH.waves{r:Int}:∀(L:List Nat) (e:Nat) (s:aE),cH (L.length+e) s->cH e (L.foldl (eR r) s)
 |[],e,s,h=>by rw[List.length_nil,Nat.zero_add]at h;exact h
 |k :: L,e,s,h=>by
  rw[List.foldl_cons];refine cH.waves L e _ (cH.send h _ ?_);have:eS {aH with src:=0,dst:=(k:Int),kind:=6,round:=r}=1:=rfl;rw[this,List.length_cons];omega
theorem cH.check{N:Nat}(ho:cH 0 s)(h:aN N s):cH 0 (fJ s).1:=by
 have h2:=h.two;have hl:=h.len;unfold fJ;split
 ·exact ho
 ·split
  ·unfold fP
   dsimp only
   repeat' split
   all_goals first|exact ho|exact ho.rest|exact(ho.rest (s':=_)).send _
  ·unfold gD
   split
   ·exact ho
   ·split
    ·exact ho
    ·split
     ·exact ho.rest
     ·rename_i hop _
      refine cH.waves _ 0 _ (cH.noted ?_ _ _ _);have hz:total eS s=0:=by
       rcases List.eq_nil_or_concat s.answers with e|⟨L,b,e⟩
       ·have:=ho.none e
        omega
       ·rw[List.concat_eq_append]at e
        have hm:=ho.many L b e;have hop:iJ s=false:=Bool.eq_false_iff.2 (fun e=>hop (.inr e));unfold iJ at hop;rw[e,List.getLast?_append,List.getLast?_singleton,Option.some_or]at hop;have:¬b.many < s.workers:=by simpa using hop
        omega
      have h4:total eS {s with answers:=s.answers++ [⟨0,0,0,true⟩]}=total eS s:=mX eS rfl;refine⟨fun q=>by simp at q,fun L b q=> ?_⟩;have h3:=(List.append_inj' q rfl).2;simp at h3;rw[h4,hz,<-h3,List.length_range'];show(0:Int)+_<=s.workers;omega
end
theorem cH.new(workers room mode kind arg:Int)(ks:List aS):cH 0 (dD workers room mode ks kind arg):=by
 have e2:∀n:Nat,((List.replicate n cN).map (eG eS)).sum=0:=fun n=>by
  induction n with
  |zero=>rfl
  |succ n ih=>rw[List.replicate_succ,List.map_cons,List.sum_cons,ih];rfl
 have e3:∀n k:Nat,((List.replicate n (List.replicate k cN)).map fun ls=>(ls.map (eG eS)).sum).sum=0:=fun n k=>by
  induction n with
  |zero=>rfl
  |succ n ih=>rw[List.replicate_succ,List.map_cons,List.sum_cons,ih,e2]
 exact⟨fun _=>e3 _ _,fun L b q=>by simp[dD]at q⟩
def mM(ks:List aS)(o:ByteArray->Nat)(t:aL):Nat:=((fY ks 12 t).map fun u=>o u.id).sum
theorem yZ(o:aL->Nat)(f:aL->List aL):∀l:List aL,((l.flatMap f).map o).sum=(l.map fun t=>((f t).map o).sum).sum
 |[]=>rfl
 |a :: r=>by
  rw[List.flatMap_cons,List.map_append,List.sum_append,List.map_cons,List.sum_cons,yZ o f r]
theorem aFw{ks:List aS}{kind arg:Int}(hp:cD ks kind arg=true)(o:ByteArray->Nat):zV ks (mM ks o) o:=by
 refine⟨fun t hG=> ?_⟩;have e:fY ks 12 t=t :: (aW ks t).flatMap (fY ks 11):=rfl;unfold mM;rw[e,List.map_cons,List.sum_cons,yZ]
 congr 2
 refine List.map_congr_left (fun c hc=> ?_);obtain⟨h1,h2⟩:=lI hp hG hc;obtain⟨g1,g2,g3,g4⟩:=hG;rw[uC hp 11 c h1 (by show c.arg<=((11:Nat):Int);omega)]
structure cG(s s':aE):Prop where
 ks:s'.ks=s.ks
 kind:s'.kind=s.kind
 arg:s'.arg=s.arg
 workers:s'.workers=s.workers
 room:s'.room=s.room
 mode:s'.mode=s.mode
 vals:nJ s.values->nJ s'.values
theorem cG.refl(s:aE):cG s s:=⟨rfl,rfl,rfl,rfl,rfl,rfl,id⟩
theorem cG.trans{a b c:aE}(h:cG a b)(k:cG b c):cG a c:=
 ⟨k.ks.trans h.ks,k.kind.trans h.kind,k.arg.trans h.arg,k.workers.trans h.workers,k.room.trans h.room,k.mode.trans h.mode,fun e=>k.vals (h.vals e)⟩
theorem cG.after{a b c:aE}(k:cG b c)(h:cG a b):cG a c:=h.trans k
theorem cG.way(s:aE)(m:aI):cG s (cB s m):=by
 unfold cB;split
 ·exact⟨rfl,rfl,rfl,rfl,rfl,rfl,id⟩
 ·exact .refl s
theorem cG.send(s:aE)(m:aI):cG s (aR s m):=by
 unfold aR;dsimp only;refine cG.trans ?_ (cG.way _ _);split<;>exact⟨rfl,rfl,rfl,rfl,rfl,rfl,id⟩
theorem cG.came(s:aE)(m:aI):cG s (aX s m):=by
 unfold aX dA;dsimp only
 repeat' split
 all_goals first|exact⟨rfl,rfl,rfl,rfl,rfl,rfl,id⟩|exact⟨rfl,rfl,rfl,rfl,rfl,rfl,fun h=>qS _ _ h⟩|exact cG.after (cG.send _ _) ⟨rfl,rfl,rfl,rfl,rfl,rfl,id⟩
theorem cG.come(i j:Nat):∀(f:Nat) (s:aE),cG s (fQ f s i j):=by
 intro f
 induction f with
 |zero=>exact fun s=> .refl s
 |succ f ih=>
  intro s;unfold fQ;split
  ·refine cG.trans ?_ (ih _)
   exact cG.after (cG.came _ _) ⟨rfl,rfl,rfl,rfl,rfl,rfl,id⟩
  ·exact .refl s
theorem cG.work(s:aE)(i:Int):cG s (cJ s i).1:=by
 unfold cJ;dsimp only
 repeat' split
 all_goals first|exact .refl s|exact⟨rfl,rfl,rfl,rfl,rfl,rfl,id⟩|exact⟨rfl,rfl,rfl,rfl,rfl,rfl,fun h=>qS _ _ h⟩|exact cG.after (cG.send _ _) ⟨rfl,rfl,rfl,rfl,rfl,rfl,id⟩
theorem cG.steal(s:aE)(i v:Int):cG s (eE s i v).1:=by
 unfold eE;dsimp only
 repeat' split
 all_goals first|exact .refl s|exact cG.after (cG.send _ _) ⟨rfl,rfl,rfl,rfl,rfl,rfl,id⟩
theorem cG.drop(s:aE)(k:Int):cG s (fX s k).1:=by
 unfold fX;split
 ·exact .refl s
 ·exact⟨rfl,rfl,rfl,rfl,rfl,rfl,id⟩
theorem cG.twice(s:aE)(k:Int):cG s (fS s k).1:=by
 unfold fS;split
 ·exact .refl s
 ·exact cG.way _ _
theorem cG.again:∀(L:List aO) (s:aE),cG s (L.foldl dO s):=by
 intro L
 induction L with
 |nil=>exact fun s=> .refl s
 |cons l L ih=>
  intro s;rw[List.foldl_cons];refine cG.trans ?_ (ih _);unfold dO;split
  ·exact cG.way _ _
  ·exact .refl s
theorem cG.tick(s:aE)(i:Int):cG s (fV s i).1:=by
 unfold fV;split
 ·exact .refl s
 ·exact cG.again _ _
theorem cG.deliver(s:aE)(k:Int):cG s (eB s k).1:=by
 unfold eB;split
 ·exact .refl s
 ·dsimp only
  split
  ·split<;>exact⟨rfl,rfl,rfl,rfl,rfl,rfl,id⟩
  ·refine cG.trans ?_ (cG.way _ _)
   exact cG.after (cG.come _ _ _ _) ⟨rfl,rfl,rfl,rfl,rfl,rfl,id⟩
theorem cG.pass(s:aE)(i:Int):cG s (eL s i).1:=by
 unfold eL;dsimp only
 repeat' split
 all_goals first|exact .refl s|exact cG.trans (cG.send s _) ⟨rfl,rfl,rfl,rfl,rfl,rfl,id⟩|exact cG.after (cG.send _ _) ⟨rfl,rfl,rfl,rfl,rfl,rfl,id⟩
theorem cG.waves{r:Int}:∀(L:List Nat) (s:aE),cG s (L.foldl (eR r) s):=by
 intro L
 induction L with
 |nil=>exact fun s=> .refl s
 |cons k L ih=>
  intro s;rw[List.foldl_cons];exact cG.trans (cG.send s _) (ih _)
theorem cG.check(s:aE):cG s (fJ s).1:=by
 unfold fJ fP gD;dsimp only
 repeat' split
 all_goals first|exact .refl s|exact⟨rfl,rfl,rfl,rfl,rfl,rfl,id⟩|exact cG.after (cG.send _ _) ⟨rfl,rfl,rfl,rfl,rfl,rfl,id⟩|(refine cG.trans ?_ (cG.waves _ _);unfold dA;dsimp only;split<;>exact⟨rfl,rfl,rfl,rfl,rfl,rfl,id⟩)
theorem yP{α:Type}:∀l:List α,(l.map (fun _=>(0:Nat))).sum=0
 |[]=>rfl
 |a :: l=>by rw[List.map_cons,List.sum_cons,yP l]
def nK(x:ByteArray)(y:ByteArray):Nat:=if y=x then 1 else 0
theorem yN{α:Type} [DecidableEq α](x:α):∀l:List α,(l.map fun y=>if y=x then 1 else 0).sum=l.count x
 |[]=>rfl
 |y :: l=>by
  rw[List.map_cons,List.sum_cons,yN x l,List.count_cons];by_cases h:y=x<;>simp[h]<;>omega
theorem aLk{α:Type} [DecidableEq α]{l:List α}(h:∀x,(l.map fun y=>if y=x then 1 else 0).sum<=1):l.Nodup:=List.nodup_iff_count.2 (fun{x}=>by rw[<-yN];exact h x)
theorem aJd{ks:List aS}{kind arg:Int}(hp:cD ks kind arg=true)(x:ByteArray):mM ks (nK x) ⟨⟨#[]⟩,kind,arg⟩<=1:=by
 have ho:=uE hp;unfold mM;show((dH ks kind arg).map fun u=>nK x u.id).sum<=1;generalize dH ks kind arg=l at ho
 induction l with
 |nil=>simp
 |cons a l ih=>
  obtain⟨h1,h2⟩:=List.pairwise_cons.1 ho;rw[List.map_cons,List.sum_cons];have:=ih h2;by_cases e:a.id=x
  ·have z:(l.map fun u=>nK x u.id).sum=0:=by
    have:l.map (fun u=>nK x u.id)=l.map (fun _=>0):=List.map_congr_left (fun u hu=>by
     have:=h1 u hu;unfold nK;rw[if_neg];intro e2;unfold eM at this;rw[e,e2]at this;exact List.lt_irrefl _ this)
    rw[this,yP]
   rw[z];unfold nK;split<;>omega
  ·unfold nK at this ⊢
   rw[if_neg e];omega
structure dC(s:aE)(k:Nat):Prop where
 steady:eQ (6*k) s
 calm:bJ s
 laps:cH 0 s
 once:∀o,cS (mM s.ks o) o s=mM s.ks o ⟨⟨#[]⟩,s.kind,s.arg⟩
 byIds:nJ s.values
 few:(dH s.ks s.kind s.arg).length<=200
section
variable {s:aE} {k k':Nat}
theorem dC.more(h:dC s k)(hk:k<=k'):dC s k':=⟨h.steady.more (by omega),h.calm,h.laps,h.once,h.byIds,h.few⟩
theorem dC.fits(h:dC s k):kD s:=h.steady.fits
theorem dC.shaped(h:dC s k):cX s:=h.steady.fine.shaped
theorem dC.small(h:dC s k):dS (6*k) s:=h.steady.fine.small
theorem dC.known(h:dC s k):iF s:=h.steady.fine.known
theorem dC.vals(h:dC s k):s.values.length<=6*k:=h.steady.fine.vals
theorem dC.toks(h:dC s k)(hk:k<=10000000):∀x∈s.W,-100000000000000000<=x.token.count/\x.token.count<=100000000000000000:=fun x hx=>by
 have:=(h.steady.fine.works x hx).tok;omega
theorem dC.many(h:dC s k):∀L b,s.answers=L++ [b]->b.many<=s.workers:=fun L b e=>by
 have:=h.laps.many L b e;omega
theorem dC.sorted(h:dC s k):s.values.Pairwise (fun a b=>a.1.data.toList < b.1.data.toList)/\s.values.length<=1000000:=by
 have le:∀o:ByteArray->Nat,(s.values.map fun v=>o v.1).sum<=((dH s.ks s.kind s.arg).map fun u=>o u.id).sum:=fun o=>by
  have h1:=h.once o;unfold cS mM at h1;have e:fY s.ks 12 ⟨⟨#[]⟩,s.kind,s.arg⟩=dH s.ks s.kind s.arg:=rfl;rw[e]at h1;omega
 constructor
 ·have nd:(s.values.map (·.1)).Nodup:=aLk (fun x=>by
   rw[List.map_map];exact Nat.le_trans (le (nK x)) (aJd h.steady.fine.prog x))
  refine(h.byIds.and (List.pairwise_map.1 nd)).imp (fun{a b} q=> ?_);refine Classical.byContradiction fun n=>q.2 ?_
  exact ByteArray.ext (Array.toList_inj.1 (List.le_antisymm (List.not_lt.1 q.1) (List.not_lt.1 n)))
 ·have h1:=le (fun _=>1)
  have h2:=h.few;have e:∀{α:Type} (l:List α),(l.map fun _=>1).sum=l.length:=fun l=>by
   induction l with
   |nil=>rfl
   |cons a l ih=>rw[List.map_cons,List.sum_cons,ih,List.length_cons];omega
  rw[e,e]at h1;omega
theorem dC.of(h:dC s k){s':aE}{N:Nat}(h1:eQ N s')(h2:bJ s')(h3:cH 0 s')(e:cG s s')(hm:∀o,cS (mM s.ks o) o s'=cS (mM s.ks o) o s)(hN:N<=6*(k+1):=by omega):dC s' (k+1):=
 ⟨h1.more hN,h2,h3,fun o=>by rw[e.ks,e.kind,e.arg,hm];exact h.once o,e.vals h.byIds,by rw[e.ks,e.kind,e.arg];exact h.few⟩
theorem dC.work(h:dC s k)(i:Int):dC (cJ s i).1 (k+1):=h.of (h.steady.work i) (h.calm.work h.steady.fine i) (h.laps.work i) (.work s i) (fun o=>aKn h.steady.fine rfl (aFw h.steady.fine.prog o) i)
theorem dC.steal(h:dC s k)(i v:Int):dC (eE s i v).1 (k+1):=h.of (h.steady.steal i v) (h.calm.steal i v) (h.laps.steal i v) (.steal s i v) (fun _=>aHi h.steady.fine i v)
theorem dC.drop(h:dC s k)(i:Int):dC (fX s i).1 (k+1):=h.of (h.steady.drop i) (h.calm.drop i) (h.laps.drop i) (.drop s i) (fun _=>aJc s i)
theorem dC.twice(h:dC s k)(i:Int):dC (fS s i).1 (k+1):=h.of (h.steady.twice i) (h.calm.twice i) (h.laps.twice i) (.twice s i) (fun _=>aIh s i)
theorem dC.tick(h:dC s k)(i:Int):dC (fV s i).1 (k+1):=h.of (h.steady.tick i) (h.calm.tick h.steady.fine i) (h.laps.tick i) (.tick s i) (fun _=>aJi s i)
theorem dC.deliver(h:dC s k)(hk:k<=170000)(i:Int):dC (eB s i).1 (k+1):=h.of (h.steady.deliver (by omega) i) (h.calm.deliver i) (h.laps.deliver h.steady.fine (by omega) i) (.deliver s i) (fun _=>aEn h.steady.fine (by omega) i)
theorem dC.pass(h:dC s k)(hk:k<=170000)(i:Int):dC (eL s i).1 (k+1):=h.of (h.steady.pass (by omega) i) (h.calm.pass i) (h.laps.pass i) (.pass s i) (fun _=>aKl h.steady.fine i)
theorem dC.check(h:dC s k)(hk:k<=170000):dC (fJ s).1 (k+1):=h.of (h.steady.check (by omega)) (h.calm.check h.steady.fine) (h.laps.check h.steady.fine) (.check s) (fun _=>aHw h.steady.fine (by omega))
end
def fK(F:Nat->Prop)(W:World)(xp wp:Option Addr)(k:Nat):Prop:=
 (xp=none/\wp=none)\/∃(B1 B2:Nat) (F1 F2:Nat->Prop) (s:aE),xp=some ⟨B1,0,none⟩/\wp=some ⟨B2,0,none⟩/\bK F1 W B1 s/\dW F2 W B2 s/\(∀b,F1 b->F b/\¬F2 b)/\(∀b,F2 b->F b)/\dC s k
theorem fK.kept{F F' Y:Nat->Prop}{W W':World}{xp wp:Option Addr}{k k':Nat}(h:fK F W xp wp k)(hk:aB Y W W')(hx:∀g,g < W.heap.size->F g->¬Y g/\F' g)(hkk:k<=k'):fK F' W' xp wp k':=by
 rcases h with h|⟨B1,B2,F1,F2,s,h1,h2,h3,h4,h5,h6,h7⟩
 ·exact .inl h
 ·refine .inr ⟨B1,B2,fun b=>F1 b/\b < W.heap.size,fun b=>F2 b/\b < W.heap.size,s,h1,h2,h3.kept hk (fun g hg hF=>⟨(hx g hg (h5 g hF).1).1,hF,hg⟩),h4.kept hk (fun g hg hF=>⟨(hx g hg (h6 g hF)).1,hF,hg⟩),fun b hb=>⟨(hx b hb.2 (h5 b hb.1).1).2,fun h=>(h5 b hb.1).2 h.1⟩,fun b hb=>(hx b hb.2 (h6 b hb.1)).2,h7.more hkk⟩
theorem oH(c n:Int)(hc: -9223372036854775808<=c/\c<=9223372036854775807)(hn:1<=n)(w:World) :
  Calls prog 28 #[.int .i64 c,.int .i64 n] w fun e w'=>e= .returned (.int .i64 (iC c n))/\w'=w:=by
 have HP:Hid (iC c n=(if c < 0 then -(c+1)else c) % n):=rfl;obtain⟨hc1,hc2⟩:=hc;have hb:(n==0)=false:=by rw[g_];omega
 by_cases h:c < 0
 ·go_enter func28,ntmps28
  go_wp2
  go_ret;refine⟨?_,rfl⟩;rw[HP.out,if_pos h,<-Int.tmod_eq_emod_of_nonneg (by omega),Int.neg_tmod];rfl
 ·go_enter func28,ntmps28
  go_wp2
  go_ret;refine⟨?_,rfl⟩;rw[HP.out,if_neg (by omega)];rfl
end Go.Proofs.YtfanaanofjhlkaaGreatDoor
