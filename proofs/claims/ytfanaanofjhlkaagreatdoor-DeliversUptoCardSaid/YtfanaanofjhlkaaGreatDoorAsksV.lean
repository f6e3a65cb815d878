import Derived.Test.YtfanaanofjhlkaaGreatDoorTamed
import Derived.Test.YtfanaanofjhlkaaGreatDoorXMsgs
import Derived.Test.YtfanaanofjhlkaaGreatDoorRefMessages
import Derived.Test.YtfanaanofjhlkaaGreatDoorTakeV
import Derived.Test.YtfanaanofjhlkaaGreatDoorRefRing
set_option maxHeartbeats 16000000
set_option maxRecDepth 100000
namespace Go.Proofs.YtfanaanofjhlkaaGreatDoor
open Go Go.RowKit Tryz
theorem rW(w:World)(xp wp:Option Addr)(v:Array Value):∃Z,(w.alloc (Obj.cells #[.pointer xp,.pointer wp] 76)).alloc (Obj.cells v 73)=Z/\Below w.heap.size w Z/\aD Z w.heap.size 76 #[.pointer xp,.pointer wp]/\aD Z (w.heap.size+1) 73 v/\Z.heap.size=w.heap.size+2:=
 ⟨_,rfl,((e_ _ _).alloc (a_ _) _).alloc (by simp) _,(aD.new w _ _).alloc _,fM _ _ _ _ (by simp),by simp⟩
def aNg(F:Nat->Prop)(w Z:World)(xp wp:Option Addr)(m f1 f2:Nat)(A1 A2:Array Value):Prop:=
 ∃(er:Int) (X:World->Prop),Calls prog f1 A1 Z (fun e w1=>e= .returned (.int .i64 er)/\X w1)/\∀w1,X w1->aB (fun g=>F g/\g < w.heap.size) Z w1/\Calls prog f2 A2 w1 (fun e w2=>e= .returned (.int .i64 er)/\fK (fun g=>F g\/w.heap.size<=g) w2 xp wp (m+1)/\aB F w w2)
theorem nH{F:Nat->Prop}{w Z:World}{xp wp:Option Addr}{m f1 f2:Nat}{a:Option Addr->Array Value}(S:aE->aE×Int)(ht:fK F w xp wp m)(hZ:Below w.heap.size w Z)
  (n1:Calls prog f1 (a none) Z (fun e w'=>e= .returned (.int .i64 1)/\Below Z.heap.size Z w'))
  (n2:∀w1,Calls prog f2 (a none) w1 (fun e w'=>e= .returned (.int .i64 1)/\w'=w1))
  (c1:∀F B s,bK F Z B s->dC s m->Calls prog f1 (a (some ⟨B,0,none⟩)) Z (fun e w'=>e= .returned (.int .i64 (S s).2)/\bK (fun g=>F g\/Z.heap.size<=g) w' B (S s).1/\aB F Z w'))
  (c2:∀F B s w1,dW F w1 B s->dC s m->Calls prog f2 (a (some ⟨B,0,none⟩)) w1 (fun e w'=>e= .returned (.int .i64 (S s).2)/\dW (fun g=>F g\/w1.heap.size<=g) w' B (S s).1/\aB F w1 w'))
  (al:∀s,dC s m->dC (S s).1 (m+1)):aNg F w Z xp wp m f1 f2 (a xp) (a wp):=by
 have sZ:=hZ.size;have hk:aB (fun _=>False) w Z:=aB.of_below hZ (fun k h1 h2=>by omega);rcases ht with⟨rfl,rfl⟩|⟨B1,B2,F1,F2,s,rfl,rfl,hx,hr,h12,h2,hal⟩
 ·exact⟨1,fun w1=>Below Z.heap.size Z w1,n1,fun w1 h=>⟨aB.of_below h (fun k h1 h2=>by omega),(n2 w1).mono fun e w2 q=>⟨q.1,.inl ⟨rfl,rfl⟩,q.2 ▸(hk.mono (fun _ _ h=>h.elim)).later h sZ⟩⟩⟩
 ·refine⟨(S s).2,_,c1 (fun g=>F1 g/\g < w.heap.size) B1 s (hx.kept hk (fun g hg h=>⟨fun h=>h,h,hg⟩)) hal,fun w1 h1=>⟨h1.2.mono (fun g _ h=>⟨(h12 g h.1).1,h.2⟩),?_⟩⟩
  have hr1:dW (fun g=>F2 g/\g < w.heap.size) w1 B2 s:=(hr.kept hk (F':=fun g=>F2 g/\g < w.heap.size) (fun g hg h=>⟨fun h=>h,h,hg⟩)).kept h1.2 (fun g hg h=>⟨fun h'=>(h12 g h'.1).2 h.1,h⟩);refine(c2 _ B2 s w1 hr1 hal).mono ?_;rintro e w2 ⟨rfl,hr2,hk2⟩;have e1:=h1.2.size;refine⟨rfl,.inr ⟨B1,B2,fun g=>((F1 g/\g < w.heap.size)\/Z.heap.size<=g)/\g < w1.heap.size,fun g=>(F2 g/\g < w.heap.size)\/w1.heap.size<=g,(S s).1,rfl,rfl,?_,hr2,?_,?_,al s hal⟩,?_⟩
  ·exact h1.1.kept hk2 (fun g hg h=>⟨fun h'=>(by
    rcases h with h|h
    ·exact(h12 g h.1).2 h'.1
    ·omega),h,hg⟩)
  ·intro g h
   refine⟨?_,fun h'=> ?_⟩
   ·rcases h.1 with h'|h'
    ·exact .inl (h12 g h'.1).1
    ·exact .inr (by omega)
   ·rcases h.1 with h1|h1
    ·rcases h' with h'|h'
     ·exact(h12 g h1.1).2 h'.1
     ·omega
    ·omega
  ·intro g h
   rcases h with h|h
   ·exact .inl (h2 g h.1)
   ·exact .inr (by omega)
  ·exact((hk.mono (fun _ _ h=>h.elim)).andThen h1.2 (fun g _ h=>(h12 g h.1).1)).andThen hk2 (fun g _ h=>h2 g h.1)
theorem aHn{s:aE}(h:kD s)(i:Int):(eY s i).1.length<=1000000:=by
 unfold eY;split
 ·simp
 ·cases hx:s.W[i.toNat]? with
  |none=>simp
  |some x=>
   have h1:=h.few x (d_ hx);have h2:=h.rmax;simp;omega
theorem aIa{F:Nat->Prop}{w Z:World}{xp wp:Option Addr}{m:Nat}(W:Int)(ht:fK F w xp wp m)(hZ:Below w.heap.size w Z) :
  ∃(er:Int) (l:List aL),l.length<=1000000/\
   Calls prog 23 #[.pointer xp,.int .i64 W] Z (fun e w'=>∃v,e= .returned (.tuple #[v,.int .i64 er])/\w'.ownsRow Z.heap.size 62 3 v l.length (l.flatMap aJ)/\Below Z.heap.size Z w')/\
   ∀w1,Below Z.heap.size Z w1->Calls prog 64 #[.pointer wp,.int .i64 W] w1 (fun e w'=>∃v,e= .returned (.tuple #[v,.int .i64 er])/\w'.ownsRow w1.heap.size 62 3 v l.length (l.flatMap aJ)/\Below w1.heap.size w1 w'):=by
 rcases ht with⟨rfl,rfl⟩|⟨B1,B2,F1,F2,s,rfl,rfl,hx,hr,h12,h2,hal⟩
 ·exact⟨1,[],by simp,(aFt W Z).mono fun e w' h=>⟨_,h.1,World.ownsRow_nil _ _ _ _,h.2⟩,fun w1 _=>(aDe W w1).mono fun e w' h=>⟨_,h.1,World.ownsRow_nil _ _ _ _,h.2 ▸e_ _ _⟩⟩
 ·exact⟨(eY s W).2,(eY s W).1,aHn hal.fits W,vR F1 B1 s W Z (hx.later hZ) hal.fits,fun w1 hb=>aBl F2 B2 s W w1 (hr.later (hZ.trans (hb.mono hZ.size))) hal.fits⟩
theorem aIg(F Fb:Nat->Prop)(xp wp:Option Addr)(m Bb N came:Nat)(hN:N<=300000000000)(hcm:came<=300000000000)(r W V i b c wk rm md pk pa:Int)(ka:Option Addr)(kn kc:Nat)(w:World)(ht:fK F w xp wp m)(hB:eU Fb w Bb N came) :
  Calls prog 29 #[.agg #[.pointer xp,.pointer wp],.pointer (some ⟨Bb,0,none⟩),.agg (cW 3 r W V i b c wk rm md (.slice ka kn kc) pk pa)] w fun e w'=>e= .returned (.bool true)/\(∃N',N'<=N+2/\eU (fun g=>Fb g\/w.heap.size<=g) w' Bb N' (came+1))/\aB Fb w w':=by
 obtain⟨Z,hZ,hbZ,bT,bO,sZ⟩:=rW w xp wp (cW 3 r W V i b c wk rm md (.slice ka kn kc) pk pa);have HBT:=aC bT;have HBO:=aC bO;have HBZ:=aC hbZ;obtain⟨er,l,hl,hx,hr⟩:=aIa W ht hbZ;have HX:=aC hx;have HR:=aC hr;have HBK:Hid (eU (fun g=>Fb g/\g < w.heap.size) w Bb N came):=hB.mono (fun g hg h=>⟨h,hg⟩);have t0:=bT.cell (o:=0) rfl;have o0:=bO.cell (o:=0) rfl;have o2:=bO.cell (o:=2) rfl;clear bT bO hbZ ht hx hr hB;go_enter func29,ntmps29
 go_wp2_with (first
  |(go_at_call 23;refine HX.out.mono ?_;rintro e w1 ⟨v,rfl,hv,hb1⟩
    have t1:=(HBT.out.below hb1 (by omega)).cell (o:=1) rfl;have o2':=(HBO.out.below hb1 (by omega)).cell (o:=2) rfl;obtain⟨va,vc,rfl⟩:=bG hv;have HV:=aC hv;have HB1:=aC hb1;have e1:=hb1.size;clear hv hb1)
  |(go_at_call 64;refine(HR.out w1 HB1.out).mono ?_;rintro e w2 ⟨v2,rfl,hv2,hb2⟩
    obtain⟨va2,vc2,rfl⟩:=bG hv2;have HV':Hid (w2.ownsRow Z.heap.size 62 3 (.slice va l.length vc) l.length (l.flatMap aJ)):=gP HV.out hb2 (fun g e=>(HV.out.lt g e).2);have HV2:=aC hv2;have HB2:=aC hb2;have e2:=hb2.size;clear hv2 hb2)
  |(go_at_call 65;refine(qL _ _ l w2 (fR (sz:=3) (enc:=aJ) (fun _=>rfl) HV'.out rfl) (fR (sz:=3) (enc:=aJ) (fun _=>rfl) HV2.out rfl) (by omega)).mono ?_;rintro e w3 ⟨rfl,hb3⟩
    have e3:=hb3.size;have HV3:Hid (w3.ownsRow Z.heap.size 62 3 (.slice va l.length vc) l.length (l.flatMap aJ)):=gP HV'.out hb3 (fun g e=>(HV'.out.lt g e).2);have HB3:Hid (Below w.heap.size w w3):=((HBZ.out.trans (HB1.out.mono (by omega))).trans (HB2.out.mono (by omega))).trans (hb3.mono (by omega));have HBK3:Hid (eU (fun g=>Fb g/\g < w.heap.size) w3 Bb N came):=HBK.out.later HB3.out;clear hb3)
  |(go_at_call 66;refine(aFx _ Bb N came (.slice va l.length vc) l w3 HBK3.out (aP HV3.out (aB.refl (fun _=>False) _) (fun _ _ h=>h) (Nat.zero_le _)) (fun g e h=>by have:=(HV3.out.lt g e).1;omega) hl hN hcm).mono ?_;rintro e w4 ⟨rfl,N',hN',hbk4,hk4⟩
    have HBK4:=aC hbk4;have HK4:=aC hk4;clear hbk4 hk4))
 go_ret;refine⟨by simp,⟨N',hN',HBK4.out.mono (fun g _ h=> ?_)⟩,?_⟩
 ·rcases h with h|h|h
  ·exact .inl h.1
  ·exact .inr (by omega)
  ·have:=(HV3.out.lt g h).1
   exact .inr (by omega)
 ·refine(aB.of_below HB3.out (fun k h1 h2=>absurd h1 (by omega))).andThen HK4.out (fun g hg h=> ?_)
  rcases h with h|h
  ·exact h.1
  ·have:=(HV3.out.lt g h).1
   omega
theorem aLy(a:Option Addr)(l c:Nat)(w:World):(binOp .eql 97 (.slice a l c) (.slice none 0 0)).run prog w= .ok (.bool a.isNone) w:=run_eql_slice_nil w _ _ a l c underlying97
attribute [local go_sem] aLy
theorem aFe(v:Value)(l:List aI)(w:World)(hv:eV 15 aK w v l)(hl:l.length<=100000000) :
  Calls prog 174 #[v] w fun e w'=>∃v',e= .returned v'/\w'.ownsRow w.heap.size 124 15 v' l.length (l.flatMap aK)/\Below w.heap.size w w':=by
 obtain⟨i1,hi1,hy0,hy1,hy2⟩:=info_parts jS;obtain⟨a,cap,rfl,hc⟩:=hv;cases a with
 |none=>
  have hl0:l=[]:=by
   cases l with
   |nil=>rfl
   |cons x r=>obtain⟨g,o,e,_⟩:=hc 0 x rfl;cases e
  subst hl0;go_enter func174,ntmps174
  go_wp2_with fail
  go_ret;exact⟨_,rfl,World.ownsRow_nil _ _ _ _,e_ _ _⟩
 |some ad=>
  have HN:Hid (∀j u,(l.flatMap aK)[j]?= some u->∃b,(some ad:Option Addr)=some b/\(w.alloc (Obj.cells #[] 124)).cell? (b.add j)=some u):=fun j u hj=>by
   have hlt:j < l.length*15:=by rw[<-fL (sz:=15) (enc:=aK) (fun _=>rfl) l];exact(c_.1 hj).1
   obtain⟨x,hx⟩:∃x,l[j / 15]?= some x:=⟨_,b_ (by omega)⟩;obtain⟨u',hu'⟩:∃u',(aK x)[j % 15]?= some u':=⟨_,b_ (by show j % 15 < 15;omega)⟩;have h1:=dZ (sz:=15) (enc:=aK) (fun _=>rfl) l _ x _ u' hx hu';rw[show j / 15*15+j % 15=j from by omega,hj]at h1;obtain⟨g,o,e,hg,hcc⟩:=hc _ x hx;cases e;have h2:=hcc _ u' hu';rw[Nat.add_assoc,show j / 15*15+j % 15=j from by omega]at h2;cases h1;have hadd:(⟨g,o,none⟩:Addr).add j=⟨g,o+j,none⟩:=by unfold Addr.add;split<;>simp_all
   exact⟨_,rfl,by rw[hadd];exact cE _ h2⟩
  have HE:Hid ((w.alloc (Obj.cells #[] 124)).ownsRow w.heap.size 124 15 (.slice (some ⟨w.heap.size,0,none⟩) 0 0) 0 []):=World.ownsRow_lit (base:=w.heap.size) (e:=124) (size:=15) w #[] 0 (a_ _) (by unfold maxLen;omega) rfl;have HL:Hid ((l.flatMap aK).length=l.length*15):=fL (sz:=15) (enc:=aK) (fun _=>rfl) l;clear hc;go_enter func174,ntmps174
  go_wp2_with (at_builtin;refine kE rfl _ _ _ rfl w.heap.size 124 i1 _ 15 128 underlying97 hi1 hy0 hy1 hy2 rfl (by omega) (.slice (some ⟨w.heap.size,0,none⟩) 0 0) 0 [] rfl HE.out (some ad) l.length cap (l.flatMap aK) rfl HL.out HN.out (iZ mI _) (by unfold maxLen;omega) (by omega) (by simp) ?_;intro v3 w3 hown3 hgrow3;rw[Nat.zero_add,List.nil_append]at hown3;obtain⟨a3,c3,rfl⟩:=bG hown3)
  go_ret;refine⟨_,rfl,hown3,?_⟩;exact((e_ _ _).alloc (a_ _) _).trans ((aB.grown hgrow3 (X:=fun b=>w.heap.size<=b) (fun r e=>by simp[Value.ownBlock]at e;omega)).below (by simp) (fun _ h=>h))
theorem aHa(v:Value)(l:List aI)(w:World)(hv:eV 15 aK w v l)(hl:l.length<=100000000) :
  Calls prog 119 #[v] w fun e w'=>∃v',e= .returned v'/\w'.ownsRow w.heap.size 124 15 v' l.length (l.flatMap aK)/\Below w.heap.size w w':=by
 have HC:=aC (aFe v l w hv hl);clear hv;go_enter func119,ntmps119
 go_wp2_with (go_at_call 174;refine HC.out.mono ?_;rintro e w1 ⟨v1,rfl,hrow1,hb1⟩)
 go_ret;exact⟨_,rfl,hrow1,hb1⟩
theorem aBz(w:World):Calls prog 56 #[.pointer none] w fun e w'=>e= .returned (.tuple #[.slice none 0 0,.int .i64 1])/\w=w':=by
 go_enter func56,ntmps56
 go_wp2_with (go_at_call 45;refine(rL _ _).mono ?_;rintro e w4 ⟨rfl,hw4⟩;obtain rfl:=hw4.symm)
 go_ret2
 exact⟨rfl,rfl⟩
theorem wO(w:World):Calls prog 95 #[.slice none 0 0] w fun e w'=>e= .returned (.int .i64 0)/\w=w':=by
 go_enter func95,ntmps95
 go_wp2_with fail
 go_loopw [8] (fun iv wr=>iv= .int .i64 0/\w=wr) (fun iv _=>0)
 case atStart=>exact⟨rfl,rfl⟩
 case round=>
  obtain⟨rfl,rfl⟩:=hrel
  go_wp2_with fail
  go_ret;exact⟨rfl,rfl⟩
theorem aAk(F:Nat->Prop)(B:Nat)(s:aE)(w:World)(hx:bK F w B s)(hs:cX s) :
  Calls prog 56 #[.pointer (some ⟨B,0,none⟩)] w fun e w'=>∃v,e= .returned (.tuple #[v,.int .i64 0])/\w'.ownsRow w.heap.size 124 15 v s.way.length (s.way.flatMap aK)/\Below w.heap.size w w':=by
 obtain⟨part,-,kv,wv,yv,M,xs,h⟩:=hx;have hL:eV 15 aK w yv s.way:=fR (sz:=15) (enc:=aK) (fun _=>rfl) h.yrow.1 rfl;have HC:=aC (aHa yv s.way w hL (by have:=hs.way;omega));have HA:Hid (Calls prog 45 #[.pointer (some ⟨B,0,none⟩),.slice none 0 0] w fun e w'=>∃r,e= .returned (.int .i64 r)/\(r=0/\w=w')):=rD B (.slice none 0 0) w (fun r w'=>r=0/\w=w') ((wO w).mono fun e w' h=>⟨0,h.1,rfl,h.2⟩);obtain⟨ya,yc,hyf⟩:=bG h.yrow.1;subst hyf;have b4:w.cell? ⟨B,5,none⟩=some (.slice ya s.way.length yc):=h.box.cell (o:=5) rfl;clear h hL;go_enter func56,ntmps56
 go_wp2_with (first
  |(go_at_call 45;refine HA.out.mono ?_;rintro e w4 ⟨r,rfl,rfl,rfl⟩)
  |(go_at_call 119;refine HC.out.mono ?_;rintro e w5 ⟨v5,rfl,hr5,hb5⟩))
 go_ret2
 exact⟨_,rfl,hr5,hb5⟩
end Go.Proofs.YtfanaanofjhlkaaGreatDoor
namespace Go.Proofs.YtfanaanofjhlkaaGreatDoor
open Go Go.RowKit Tryz
theorem aDy{F:Nat->Prop}{w Z:World}{xp wp:Option Addr}{m:Nat}(ht:fK F w xp wp m)(hZ:Below w.heap.size w Z) :
  ∃(er:Int) (l:List aI),l.length<=1000000/\
   Calls prog 56 #[.pointer xp] Z (fun e w'=>∃v,e= .returned (.tuple #[v,.int .i64 er])/\w'.ownsRow Z.heap.size 124 15 v l.length (l.flatMap aK)/\Below Z.heap.size Z w')/\
   ∀w1,Below Z.heap.size Z w1->Calls prog 67 #[.pointer wp] w1 (fun e w'=>∃v,e= .returned (.tuple #[v,.int .i64 er])/\w'.ownsRow w1.heap.size 124 15 v l.length (l.flatMap aK)/\Below w1.heap.size w1 w'):=by
 rcases ht with⟨rfl,rfl⟩|⟨B1,B2,F1,F2,s,rfl,rfl,hx,hr,h12,h2,hal⟩
 ·exact⟨1,[],by simp,(aBz Z).mono fun e w' h=>⟨_,h.1,World.ownsRow_nil _ _ _ _,h.2 ▸e_ _ _⟩,fun w1 _=>(aAp w1).mono fun e w' h=>⟨_,h.1,World.ownsRow_nil _ _ _ _,h.2 ▸e_ _ _⟩⟩
 ·exact⟨0,s.way,by have:=hal.shaped.way;omega,aAk F1 B1 s Z (hx.later hZ) hal.shaped,fun w1 hb=>aAc F2 B2 s w1 (hr.later (hZ.trans (hb.mono hZ.size))) hal.shaped⟩
theorem aFy(F Fb:Nat->Prop)(xp wp:Option Addr)(m Bb N came:Nat)(hN:N<=300000000000)(hcm:came<=300000000000)(r W V i b c wk rm md pk pa:Int)(ka:Option Addr)(kn kc:Nat)(w:World)(ht:fK F w xp wp m)(hB:eU Fb w Bb N came) :
  Calls prog 29 #[.agg #[.pointer xp,.pointer wp],.pointer (some ⟨Bb,0,none⟩),.agg (cW 5 r W V i b c wk rm md (.slice ka kn kc) pk pa)] w fun e w'=>e= .returned (.bool true)/\(∃N',N'<=N+2/\eU (fun g=>Fb g\/w.heap.size<=g) w' Bb N' (came+1))/\aB Fb w w':=by
 obtain⟨Z,hZ,hbZ,bT,bO,sZ⟩:=rW w xp wp (cW 5 r W V i b c wk rm md (.slice ka kn kc) pk pa);have HBT:=aC bT;have HBO:=aC bO;have HBZ:=aC hbZ;obtain⟨er,l,hl,hx,hr⟩:=aDy ht hbZ;have HX:=aC hx;have HR:=aC hr;have HBK:Hid (eU (fun g=>Fb g/\g < w.heap.size) w Bb N came):=hB.mono (fun g hg h=>⟨h,hg⟩);have t0:=bT.cell (o:=0) rfl;have o0:=bO.cell (o:=0) rfl;clear bT bO hbZ ht hx hr hB;go_enter func29,ntmps29
 go_wp2_with (first
  |(go_at_call 56;refine HX.out.mono ?_;rintro e w1 ⟨v,rfl,hv,hb1⟩
    have t1:=(HBT.out.below hb1 (by omega)).cell (o:=1) rfl;obtain⟨va,vc,rfl⟩:=bG hv;have HV:=aC hv;have HB1:=aC hb1;have e1:=hb1.size;clear hv hb1)
  |(go_at_call 67;refine(HR.out w1 HB1.out).mono ?_;rintro e w2 ⟨v2,rfl,hv2,hb2⟩
    obtain⟨va2,vc2,rfl⟩:=bG hv2;have HV':Hid (w2.ownsRow Z.heap.size 124 15 (.slice va l.length vc) l.length (l.flatMap aK)):=gP HV.out hb2 (fun g e=>(HV.out.lt g e).2);have HV2:=aC hv2;have HB2:=aC hb2;have e2:=hb2.size;clear hv2 hb2)
  |(go_at_call 68;refine(qK _ _ l w2 (fR (sz:=15) (enc:=aK) (fun _=>rfl) HV'.out rfl) (fR (sz:=15) (enc:=aK) (fun _=>rfl) HV2.out rfl) (by omega)).mono ?_;rintro e w3 ⟨rfl,hb3⟩
    have e3:=hb3.size;have HV3:Hid (w3.ownsRow Z.heap.size 124 15 (.slice va l.length vc) l.length (l.flatMap aK)):=gP HV'.out hb3 (fun g e=>(HV'.out.lt g e).2);have HB3:Hid (Below w.heap.size w w3):=((HBZ.out.trans (HB1.out.mono (by omega))).trans (HB2.out.mono (by omega))).trans (hb3.mono (by omega));have HBK3:Hid (eU (fun g=>Fb g/\g < w.heap.size) w3 Bb N came):=HBK.out.later HB3.out;clear hb3)
  |(go_at_call 69;refine(aGo _ Bb N came (.slice va l.length vc) l w3 HBK3.out (aP HV3.out (aB.refl (fun _=>False) _) (fun _ _ h=>h) (Nat.zero_le _)) (fun g e h=>by have:=(HV3.out.lt g e).1;omega) hl hN hcm).mono ?_;rintro e w4 ⟨rfl,N',hN',hbk4,hk4⟩
    have HBK4:=aC hbk4;have HK4:=aC hk4;clear hbk4 hk4))
 go_ret;refine⟨by simp,⟨N',hN',HBK4.out.mono (fun g _ h=> ?_)⟩,?_⟩
 ·rcases h with h|h|h
  ·exact .inl h.1
  ·exact .inr (by omega)
  ·have:=(HV3.out.lt g h).1
   exact .inr (by omega)
 ·refine(aB.of_below HB3.out (fun k h1 h2=>absurd h1 (by omega))).andThen HK4.out (fun g hg h=> ?_)
  rcases h with h|h
  ·exact h.1
  ·have:=(HV3.out.lt g h).1
   omega
end Go.Proofs.YtfanaanofjhlkaaGreatDoor
namespace Go.Proofs.YtfanaanofjhlkaaGreatDoor
open Go Go.RowKit Go.Maps Go.Sort Tryz
abbrev gX(v:ByteArray×Int):List UInt8:=v.1.data.toList
theorem wP(L:List (ByteArray×Int))(v:ByteArray×Int):jM (L++ [v])=(jM L).put (fZ v.1) (lH v.2):=by simp[jM]
theorem aLd{a b:ByteArray×Int}(h:fZ a.1=fZ b.1):gX a=gX b:=by simpa[fZ,gX]using h
theorem xC:∀n (l:List (ByteArray×Int)),l.length=n->
  Tidy (jM l)/\(∀s,has (jM l) (.string s)=true ↔ ∃t∈l,gX t=s)/\(l.Pairwise (fun a b=>gX a≠gX b)->∀t∈l,∀z,(jM l).atKey (fZ t.1) z=lH t.2)
 |0,l,h=>by
  obtain rfl:=List.length_eq_zero_iff.1 h;exact⟨tidy_empty,fun s=>by simp[jM,has_eq],fun _ t ht=>by cases ht⟩
 |n+1,l,h=>by
  obtain⟨l',t,rfl⟩:∃l' t,l=l'++ [t]:=⟨l.dropLast,l.getLast (by intro e;rw[e]at h;cases h),(List.dropLast_concat_getLast _).symm⟩;simp at h;obtain⟨h1,h2,h3⟩:=xC n l' h;rw[wP];refine⟨h1.put (oL _) _,fun s=> ?_,fun hp=> ?_⟩
  ·by_cases hs:gX t=s
   ·subst hs
    have:=has_put_same h1.isMap (oL t.1) (lH t.2);exact⟨fun _=>⟨t,by simp,rfl⟩,fun _=>this⟩
   ·rw[has_put_other (k:=fZ t.1) (k':= .string s) (by intro e;simp[fZ]at e;exact hs e.symm),h2 s]
    constructor
    ·rintro⟨u,hu,e⟩;exact⟨u,by simp[hu],e⟩
    ·rintro⟨u,hu,e⟩
     rcases List.mem_append.1 hu with hu|hu
     ·exact⟨u,hu,e⟩
     ·simp at hu;subst hu;exact absurd e hs
  ·obtain⟨hp1,_,hp2⟩:=List.pairwise_append.1 hp
   have h5:=h3 hp1;intro u hu z;rcases List.mem_append.1 hu with hu|hu
   ·rw[atKey_put_other (by intro e;exact hp2 u hu t (by simp) (aLd e)),h5 u hu]
   ·simp at hu;subst hu;exact atKey_put_same h1.isMap (oL _) _ _
theorem yJ:∀n (l:List (ByteArray×Int)),l.length=n->∃es,jM l= .map es/\∀p∈es,∃x,p.1= .string x
 |0,l,h=>by
  obtain rfl:=List.length_eq_zero_iff.1 h;exact⟨[],rfl,fun p hp=>by cases hp⟩
 |n+1,l,h=>by
  obtain⟨l',t,rfl⟩:∃l' t,l=l'++ [t]:=⟨l.dropLast,l.getLast (by intro e;rw[e]at h;cases h),(List.dropLast_concat_getLast _).symm⟩;simp at h;obtain⟨es,he,hk⟩:=yJ n l' h;rw[wP,he];refine⟨_,rfl,fun p hp=> ?_⟩;rcases sR hp with rfl|hp
  ·exact⟨_,rfl⟩
  ·exact hk p (List.mem_filter.1 hp).1
theorem aGn{L vs:List (ByteArray×Int)}(hp:vs.Pairwise (fun a b=>gX a < gX b))(hL:L.Perm vs){ss:List (List UInt8)}(hs:ss.Perm (strKeys (jM L))) :
  ss.length=vs.length/\lJ (jM L) (ss.mergeSort (fun x y=>decide (x<=y)))=vs.flatMap dL:=by
 have hne':vs.Pairwise (fun a b=>gX a≠gX b):=hp.imp fun h e=>by rw[e]at h;exact List.lt_irrefl _ h
 have hne:L.Pairwise (fun a b=>gX a≠gX b):=hL.symm.pairwise hne' (fun h e=>h e.symm);obtain⟨h1,h2,h3⟩:=xC _ L rfl;have h5:=h3 hne;obtain⟨es,he,hes⟩:=h1;have hk:∀p∈es,∃x,p.1= .string x:=by
  obtain⟨es',he',hk⟩:=yJ _ L rfl;rw[he]at he';cases he';exact hk
 have hperm:(L.map gX).Perm (strKeys (jM L)):=by
  rw[he];refine perm_strKeys hes hk (List.pairwise_map.2 hne) fun x=> ?_
  rw[<-he,h2 x];simp
 have hsv:ss.Perm (vs.map gX):=(hs.trans hperm.symm).trans (hL.map gX);have hsort:ss.mergeSort (fun x y=>decide (x<=y))=vs.map gX:=by
  have e1:=mergeSort_of_perm hsv;refine e1.trans ?_;refine List.mergeSort_of_pairwise ?_;exact List.pairwise_map.2 (hp.imp fun h=>by simpa[leB]using List.le_of_lt h)
 refine⟨by rw[hsv.length_eq];simp,?_⟩;rw[hsort];unfold lJ;rw[List.flatMap_map];refine oT fun t ht=> ?_
 have:mP (jM L) (gX t)=t.2:=by
  unfold mP;rw[show(Lit.string (gX t))=fZ t.1 from rfl,h5 t (hL.mem_iff.2 ht)];rfl
 rw[this];simp[encStr,gX,dL]
theorem aBi(w:World):Calls prog 20 #[.pointer none] w fun e w'=>e= .returned (.tuple #[.slice none 0 0,.bool false,.int .i64 1])/\w=w':=by
 go_enter func20,ntmps20
 go_wp2_with (go_at_call 45;refine(rL _ _).mono ?_;rintro e w1 ⟨rfl,rfl⟩)
 refine bodyPost_ret (v:= .tuple #[.slice none 0 0,.bool false,.int .i64 1]) (by simp[results,results20,go_sem]) rfl ?_;exact⟨rfl,rfl⟩
theorem aAe(F:Nat->Prop)(B:Nat)(s:aE)(w:World)(hx:bK F w B s)(hv:s.done=true->s.values.Pairwise (fun a b=>gX a < gX b)/\s.values.length<=90000000) :
  Calls prog 20 #[.pointer (some ⟨B,0,none⟩)] w fun e w'=>∃v,e= .returned (.tuple #[v,.bool s.done,.int .i64 0])/\w'.ownsRow w.heap.size 92 2 v (lC s).length ((lC s).flatMap dL)/\Below w.heap.size w w':=by
 obtain⟨part,-,kv,wv,yv,M,xs,h⟩:=hx;have HA:Hid (Calls prog 45 #[.pointer (some ⟨B,0,none⟩),.slice none 0 0] w fun e w'=>∃r,e= .returned (.int .i64 r)/\(r=0/\w=w')):=rD B (.slice none 0 0) w (fun r w'=>r=0/\w=w') ((wO w).mono fun e w' h=>⟨0,h.1,rfl,h.2⟩);have c6:w.cell? ⟨B,6,none⟩=some (.map (some M)):=h.box.cell (o:=6) rfl;have c15:w.cell? ⟨B,15,none⟩=some (.bool s.done):=h.box.cell (o:=15) rfl;obtain⟨D,hm,-,hk⟩:=h.vals;clear h;cases hd:s.done
 ·rw[hd]at c15
  have e0:lC s=[]:=by simp[lC,hd]
  rw[e0];clear hm hk hv hd;go_enter func20,ntmps20
  go_wp2_with (go_at_call 45;refine HA.out.mono ?_;rintro e w1 ⟨r,rfl,rfl,rfl⟩)
  refine bodyPost_ret (v:= .tuple #[.slice none 0 0,.bool false,.int .i64 0]) (by simp[results,results20,go_sem]) rfl ?_;exact⟨_,rfl,World.ownsRow_nil _ _ _ _,e_ _ _⟩
 ·rw[hd]at c15
  obtain⟨hv1,hv2⟩:=hv hd;have e0:lC s=s.values:=by simp[lC,hd]
  rw[e0];obtain⟨L,rfl,hL⟩:=hk.of;have HL:Hid (Calls prog 46 #[.map (some M)] w fun e w'=>∃v,e= .returned v/\w'.ownsRow w.heap.size 92 2 v s.values.length (s.values.flatMap dL)/\Below w.heap.size w w'):=by
   refine(xY M (jM L) w hm (by have:=hk.size;omega)).mono ?_;rintro e w' ⟨ss,hss,rfl,hrow,hb⟩;obtain⟨q1,q2⟩:=aGn hv1 hL hss;rw[q2,q1]at hrow;exact⟨_,by rw[q1],hrow,hb⟩
  clear hm hk hv hd hv1;go_enter func20,ntmps20
  go_wp2_with (first
   |(go_at_call 45;refine HA.out.mono ?_;rintro e w1 ⟨r,rfl,rfl,rfl⟩)
   |(go_at_call 46;refine HL.out.mono ?_;rintro e w2 ⟨v2,rfl,hrow2,hb2⟩))
  refine bodyPost_ret (v:= .tuple #[v2,.bool true,.int .i64 0]) (by simp[results,results20,go_sem]) rfl ?_;exact⟨_,rfl,hrow2,hb2⟩
end Go.Proofs.YtfanaanofjhlkaaGreatDoor
namespace Go.Proofs.YtfanaanofjhlkaaGreatDoor
open Go Go.RowKit Tryz
theorem aBw{F:Nat->Prop}{w Z:World}{xp wp:Option Addr}{m:Nat}(hm:m<=170000)(ht:fK F w xp wp m)(hZ:Below w.heap.size w Z) :
  ∃(er:Int) (ys:Bool) (l:List (ByteArray×Int)),l.length<=1000000/\
   Calls prog 20 #[.pointer xp] Z (fun e w'=>∃v,e= .returned (.tuple #[v,.bool ys,.int .i64 er])/\w'.ownsRow Z.heap.size 92 2 v l.length (l.flatMap dL)/\Below Z.heap.size Z w')/\
   ∀w1,Below Z.heap.size Z w1->Calls prog 70 #[.pointer wp] w1 (fun e w'=>∃v,e= .returned (.tuple #[v,.bool ys,.int .i64 er])/\w'.ownsRow w1.heap.size 92 2 v l.length (l.flatMap dL)/\Below w1.heap.size w1 w'):=by
 rcases ht with⟨rfl,rfl⟩|⟨B1,B2,F1,F2,s,rfl,rfl,hx,hr,h12,h2,hal⟩
 ·exact⟨1,false,[],by simp,(aBi Z).mono fun e w' h=>⟨_,h.1,World.ownsRow_nil _ _ _ _,h.2 ▸e_ _ _⟩,fun w1 _=>(aAh w1).mono fun e w' h=>⟨_,h.1,World.ownsRow_nil _ _ _ _,h.2 ▸e_ _ _⟩⟩
 ·refine⟨0,s.done,lC s,?_,aAe F1 B1 s Z (hx.later hZ) (fun _=>⟨hal.sorted.1,by have:=hal.sorted.2;omega⟩),fun w1 hb=>aAb F2 B2 s w1 (hr.later (hZ.trans (hb.mono hZ.size))) ?_⟩
  ·cases hd:s.done
   ·simp[lC,hd]
   ·have:=hal.sorted.2
    simpa[lC,hd]using this
  ·have:=hal.vals
   omega
theorem aGg(F Fb:Nat->Prop)(xp wp:Option Addr)(m Bb N came:Nat)(hm:m<=170000)(hN:N<=300000000000)(hcm:came<=300000000000)(r W V i b c wk rm md pk pa:Int)(ka:Option Addr)(kn kc:Nat)(w:World)(ht:fK F w xp wp m)(hB:eU Fb w Bb N came) :
  Calls prog 29 #[.agg #[.pointer xp,.pointer wp],.pointer (some ⟨Bb,0,none⟩),.agg (cW 12 r W V i b c wk rm md (.slice ka kn kc) pk pa)] w fun e w'=>e= .returned (.bool true)/\(∃N',N'<=N+2/\eU (fun g=>Fb g\/w.heap.size<=g) w' Bb N' (came+1))/\aB Fb w w':=by
 obtain⟨Z,hZ,hbZ,bT,bO,sZ⟩:=rW w xp wp (cW 12 r W V i b c wk rm md (.slice ka kn kc) pk pa);have HBT:=aC bT;have HBO:=aC bO;have HBZ:=aC hbZ;obtain⟨er,ys,l,hl,hx,hr⟩:=aBw hm ht hbZ;have HX:=aC hx;have HR:=aC hr;have HBK:Hid (eU (fun g=>Fb g/\g < w.heap.size) w Bb N came):=hB.mono (fun g hg h=>⟨h,hg⟩);have t0:=bT.cell (o:=0) rfl;have o0:=bO.cell (o:=0) rfl;clear bT bO hbZ ht hx hr hB;go_enter func29,ntmps29
 go_wp2_with (first
  |(go_at_call 20;refine HX.out.mono ?_;rintro e w1 ⟨v,rfl,hv,hb1⟩
    have t1:=(HBT.out.below hb1 (by omega)).cell (o:=1) rfl;obtain⟨va,vc,rfl⟩:=bG hv;have HV:=aC hv;have HB1:=aC hb1;have e1:=hb1.size;clear hv hb1)
  |(go_at_call 70;refine(HR.out w1 HB1.out).mono ?_;rintro e w2 ⟨v2,rfl,hv2,hb2⟩
    obtain⟨va2,vc2,rfl⟩:=bG hv2;have HV':Hid (w2.ownsRow Z.heap.size 92 2 (.slice va l.length vc) l.length (l.flatMap dL)):=gP HV.out hb2 (fun g e=>(HV.out.lt g e).2);have HV2:=aC hv2;have HB2:=aC hb2;have e2:=hb2.size;clear hv2 hb2)
  |(go_at_call 71;refine(qM _ _ l w2 (fR (sz:=2) (enc:=dL) (fun _=>rfl) HV'.out rfl) (fR (sz:=2) (enc:=dL) (fun _=>rfl) HV2.out rfl) (by omega)).mono ?_;rintro e w3 ⟨rfl,hb3⟩
    have e3:=hb3.size;have HV3:Hid (w3.ownsRow Z.heap.size 92 2 (.slice va l.length vc) l.length (l.flatMap dL)):=gP HV'.out hb3 (fun g e=>(HV'.out.lt g e).2);have HB3:Hid (Below w.heap.size w w3):=((HBZ.out.trans (HB1.out.mono (by omega))).trans (HB2.out.mono (by omega))).trans (hb3.mono (by omega));have HBK3:Hid (eU (fun g=>Fb g/\g < w.heap.size) w3 Bb N came):=HBK.out.later HB3.out;clear hb3)
  |(go_at_call 72;refine(aFs _ Bb N came (.slice va l.length vc) l w3 HBK3.out (aP HV3.out (aB.refl (fun _=>False) _) (fun _ _ h=>h) (Nat.zero_le _)) (fun g e h=>by have:=(HV3.out.lt g e).1;omega) hl hN hcm).mono ?_;rintro e w4 ⟨rfl,N',hN',hbk4,hk4⟩
    have HBK4:=aC hbk4;have HK4:=aC hk4;clear hbk4 hk4))
 go_ret;refine⟨by simp,⟨N',hN',HBK4.out.mono (fun g _ h=> ?_)⟩,?_⟩
 ·rcases h with h|h|h
  ·exact .inl h.1
  ·exact .inr (by omega)
  ·have:=(HV3.out.lt g h).1
   exact .inr (by omega)
 ·refine(aB.of_below HB3.out (fun k h1 h2=>absurd h1 (by omega))).andThen HK4.out (fun g hg h=> ?_)
  rcases h with h|h
  ·exact h.1
  ·have:=(HV3.out.lt g h).1
   omega
end Go.Proofs.YtfanaanofjhlkaaGreatDoor
