import Derived.Test.YtfanaanofjhlkaaGreatDoorRefWork
set_option maxHeartbeats 16000000
set_option maxRecDepth 100000
namespace Go.Proofs.YtfanaanofjhlkaaGreatDoor
open Go Go.RowKit Tryz
theorem aJh{ok:Nat->Prop}{W:World}{ka:Option Addr}{kcap:Nat}{l:List eI}(h:gI ok W (.slice ka l.length kcap) l):∀j u,(gQ l)[j]?= some u->∃b,ka=some b/\W.cell? (b.add j)=some u:=by
 intro j u hj;obtain⟨a,cap,hs,hc⟩:=h;simp only[Value.slice.injEq,true_and]at hs;obtain⟨rfl,rfl⟩:=hs;have hlt:j < l.length*2:=by rw[<-mT];exact(c_.1 hj).1
 obtain⟨d,hd⟩:∃d,l[j / 2]?= some d:=⟨_,b_ (by omega)⟩;obtain⟨b,o,rfl,_⟩:=hc _ d hd;exact⟨_,rfl,(wE (fun j c hj=>by obtain⟨b',o',e,_,h'⟩:=hc j c hj;exact⟨b',o',e,trivial,h'⟩) _ rfl j u hj).2⟩
theorem aBu(l:List (aS×Value))(p:aS×Value):mJ (l++ [p])=mJ l++ [.int .i64 p.1.A,.int .i64 p.1.B,p.2]:=by simp[mJ]
def gJ(n:Nat)(room mode:Int)(ks:List aS)(kind arg:Int)(m k:Nat):aE:=⟨n,room,mode,ks,kind,arg,List.replicate m cR,List.replicate k (List.replicate n cN),[],[],[],false,false,false⟩
theorem jV{α:Type}{l:List α}{x y:α}{i:Nat}(h:(l++ [x])[i]?= some y):(i < l.length/\l[i]?= some y)\/(i=l.length/\y=x):=by
 rcases Nat.lt_or_ge i l.length with hi|hi
 ·rw[List.getElem?_append_left hi]at h
  exact .inl ⟨hi,h⟩
 ·rw[i7 hi]at h
  have hl:=(c_.1 h).1;simp at hl;obtain rfl:i=l.length:=by omega
  simp at h;exact .inr ⟨rfl,h.symm⟩
theorem lX{α:Type}{n i:Nat}{x y:α}(h:(List.replicate n x)[i]?= some y):y=x:=by
 have:=d_ h;simp at this;exact this.2
theorem aEw(a:Option Addr)(cap:Nat)(workers room mode kind arg:Int)(ks:List aS)(w:World)(hk:bH (fun _=>True) w (.slice a ks.length cap) ks)(hc:fC workers room mode=true)(hu:(eC ks kind arg).1=0) :
  Calls prog 63 #[.agg #[.int .i64 workers,.int .i64 room,.int .i64 mode],.agg #[.slice a ks.length cap,.int .i64 kind,.int .i64 arg]] w fun e w'=>∃B,e= .returned (.tuple #[.pointer (some ⟨B,0,none⟩),.int .i64 0])/\dW (fun b=>w.heap.size<=b) w' B (dD workers room mode ks kind arg)/\Below w.heap.size w w':=by
 have hprog:cD ks kind arg=true:=by
  by_cases h:cD ks kind arg=true
  ·exact h
  ·simp[eC,h]at hu
 have hlen5:ks.length<=5:=by simp[cD,dF]at hprog;omega
 have HKL:Hid (∀k∈ks,k.kids.length<=3):=fun k hk=>by
  simp[cD]at hprog;have:=hprog.1.1.2 k hk;simp[cL]at this;exact this.1.2
 obtain⟨V,hV⟩:∃V,(w.alloc (Obj.cells #[.int .i64 workers,.int .i64 room,.int .i64 mode] 38)).alloc (Obj.cells #[.slice a ks.length cap,.int .i64 kind,.int .i64 arg] 41)=V:=⟨_,rfl⟩;have bC:aD V w.heap.size 38 #[.int .i64 workers,.int .i64 room,.int .i64 mode]:=by rw[<-hV];exact(aD.new w _ _).alloc _
 have bP:aD V (w.heap.size+1) 41 #[.slice a ks.length cap,.int .i64 kind,.int .i64 arg]:=by
  rw[<-hV];have:=aD.new (w.alloc (Obj.cells #[.int .i64 workers,.int .i64 room,.int .i64 mode] 38)) 41 #[.slice a ks.length cap,.int .i64 kind,.int .i64 arg];rw[World.size_alloc]at this;exact this
 have hbV:Below w.heap.size w V:=by rw[<-hV];exact((e_ _ _).alloc (a_ _) _).alloc (by simp) _
 have sV:V.heap.size=w.heap.size+2:=by rw[<-hV];simp
 have c0:=bC.cell (o:=0) rfl;have c1:=bC.cell (o:=1) rfl;have c2:=bC.cell (o:=2) rfl;have p0:=bP.cell (o:=0) rfl;have p1:=bP.cell (o:=1) rfl;have p2:=bP.cell (o:=2) rfl;have HKV:Hid (bH (fun b=>b < w.heap.size) V (.slice a ks.length cap) ks):=(hk.below.kept (aB.of_below hbV (X:=fun b=>w.heap.size<=b) (fun _ _ h=>h)) (fun b h1 h2=>by omega)).mono' (fun _ h=>h.2);have HBV:Hid (Below w.heap.size w V):=hbV;have HBC:Hid (aD V w.heap.size 38 #[.int .i64 workers,.int .i64 room,.int .i64 mode]):=bC;have HBP:Hid (aD V (w.heap.size+1) 41 #[.slice a ks.length cap,.int .i64 kind,.int .i64 arg]):=bP;have HL2:Hid (∀k∈ks,k.kids.length<=9223372036854775806):=fun k hk=>by have:=HKL.out k hk;omega
 obtain⟨iK,hiK,hzK0,hzK1,hzK2⟩:=info_parts uM;obtain⟨iD,hiD,hzD0,hzD1,hzD2⟩:=info_parts uQ;obtain⟨iW,hiW,hzW0,hzW1,hzW2⟩:=info_parts aGh;obtain⟨iL,hiL,hzL0,hzL1,hzL2⟩:=info_parts aKd;obtain⟨iS,hiS,hzS0,hzS1,hzS2⟩:=info_parts aIw;have h1:¬workers < 2:=by simp[fC]at hc;omega
 have h2:¬workers > 5:=by simp[fC]at hc;omega
 have h3:¬room < 1:=by simp[fC]at hc;omega
 have h4:¬room > 20:=by simp[fC]at hc;omega
 have h5:mode=1\/mode=2:=by simp[fC]at hc;omega
 obtain⟨n,rfl⟩:∃n:Nat,workers=(n:Int):=⟨workers.toNat,by omega⟩;have HU:Hid ((eC ks kind arg).1=0):=hu;go_enter func63,ntmps63;clear bC bP hbV hk hc hu hprog;have HM:Hid (mode=1\/mode=2):=h5
 go_upto_region 1 with fail
 go_cut [42] (fun b wx=>b= .bool false/\V=wx)
 case first=>
  rcases HM.out with rfl|rfl
  all_goals
   go_wp2_with fail
   go_meet
   case rel=>exact⟨rfl,rfl⟩
 case rest=>
  obtain⟨rfl,rfl⟩:=hcut;clear hV
  go_upto_region 4 with(go_at_call 125;refine(uY a cap kind arg ks V (HKV.out.mono' (fun _ _=>trivial)) (by omega) HL2.out).mono ?_;rintro e w1 ⟨v1,rfl,-,hb1⟩)
  rw[HU.out];have sz1:=hb1.size;have HB1:Hid (Below V.heap.size V w1):=hb1;have HP1:Hid (aD w1 (w.heap.size+1) 41 #[.slice a ks.length cap,.int .i64 kind,.int .i64 arg]):=HBP.out.below hb1 (by omega);have HC1:Hid (aD w1 w.heap.size 38 #[.int .i64 n,.int .i64 room,.int .i64 mode]):=HBC.out.below hb1 (by omega);have HK1:Hid (bH (fun b=>b < w.heap.size) w1 (.slice a ks.length cap) ks):=HKV.out.kept (aB.of_below hb1 (X:=fun b=>V.heap.size<=b) (fun _ _ h=>h)) (fun b h1 h2=>by omega);clear c0 c1 c2 p0 p1 p2 hb1;have p0:=HP1.out.cell (o:=0) rfl;have p1:=HP1.out.cell (o:=1) rfl;have p2:=HP1.out.cell (o:=2) rfl
  go_upto_region 8 with fail
  obtain⟨w2,hw2⟩:∃w2,w1.alloc (Obj.cells #[.slice none 0 0,.int .i64 kind,.int .i64 arg] 41)=w2:=⟨_,rfl⟩;have HQ2:Hid (aD w2 w1.heap.size 41 #[.slice none 0 0,.int .i64 kind,.int .i64 arg]):=by rw[<-hw2];exact aD.new w1 _ _
  have hb2:Below w1.heap.size w1 w2:=by rw[<-hw2];exact(e_ _ _).alloc (a_ _) _
  have sz2:w2.heap.size=w1.heap.size+1:=by rw[<-hw2];simp
  rw[hw2];clear hw2;have HP2:Hid (aD w2 (w.heap.size+1) 41 #[.slice a ks.length cap,.int .i64 kind,.int .i64 arg]):=HP1.out.below hb2 HP1.out.lt;have HC2:Hid (aD w2 w.heap.size 38 #[.int .i64 n,.int .i64 room,.int .i64 mode]):=HC1.out.below hb2 HC1.out.lt;have HK2:Hid (bH (fun b=>b < w.heap.size) w2 (.slice a ks.length cap) ks):=HK1.out.kept (aB.of_below hb2 (X:=fun b=>w1.heap.size<=b) (fun _ _ h=>h)) (fun b h1 h2=>by omega);have HB2:Hid (Below w.heap.size w w2):=(HBV.out.trans (HB1.out.mono (by omega))).trans (hb2.mono (by omega));obtain⟨Q,hQ⟩:∃Q,w1.heap.size=Q:=⟨_,rfl⟩;rw[hQ]at HQ2 sz2;rw[hQ];have hQl:w.heap.size+2<=Q:=by omega
  clear hb2 p0 p1 p2 hQ
  go_wp2_with fail
  go_loopw [9] (fun i wr=>∃(m:Nat) (l:List (aS×Value)) (v:Value),m<=ks.length/\i= .int .i64 m/\l.map Prod.fst=ks.take m/\lD wr (Q+1) v l/\aD wr Q 41 #[v,.int .i64 kind,.int .i64 arg]/\aB (·= Q) w2 wr) (fun i _=>ks.length - (intOf i).toNat)
  case atStart=>exact⟨0,[],_,Nat.zero_le _,rfl,by simp,⟨World.ownsRow_nil _ _ _ _,by simp⟩,HQ2.out,aB.refl _ _⟩
  case round=>
   obtain⟨m,l,v,hm,rfl,hlm,hrow,hbq,hkw⟩:=hrel
   rename World=>wr
   have szr:=hkw.size;have HROW:Hid (lD wr (Q+1) v l):=hrow;have HBQ:Hid (aD wr Q 41 #[v,.int .i64 kind,.int .i64 arg]):=hbq;have HKW:Hid (aB (·= Q) w2 wr):=hkw;have HLM:Hid (l.map Prod.fst=ks.take m):=hlm;have HPr:Hid (aD wr (w.heap.size+1) 41 #[.slice a ks.length cap,.int .i64 kind,.int .i64 arg]):=HP2.out.kept hkw (by omega);have HCr:Hid (aD wr w.heap.size 38 #[.int .i64 n,.int .i64 room,.int .i64 mode]):=HC2.out.kept hkw (by omega);have p0:=HPr.out.cell (o:=0) rfl;have hll:l.length=m:=by
    have:=congrArg List.length hlm;simp at this;omega
   have HLL:Hid (l.length=m):=hll;have hll2:l.length<=5:=by omega
   clear hrow hbq hkw hlm hll;by_cases hlt:m < ks.length
   ·have hkr:bH (fun b=>b < w.heap.size) wr (.slice a ks.length cap) ks:=HK2.out.kept HKW.out (fun b h1 h2=>by omega)
    obtain⟨a',cap',hs',hcs⟩:=hkr;simp only[Value.slice.injEq]at hs';obtain⟨rfl,-,rfl⟩:=hs';obtain⟨c,hcc⟩:∃c,ks[m]?= some c:=⟨_,b_ hlt⟩;obtain⟨b,o,kv,rfl,hbl,hbw,c0,c1,c2,hkk⟩:=hcs m c hcc;have HKK:Hid (gI (fun b=>b < w.heap.size) wr kv c.kids):=hkk;obtain⟨ka,kcap,rfl,-⟩:=hkk;have hk3:c.kids.length<=3:=HKL.out c (d_ hcc);have HCC:Hid (ks[m]?= some c):=hcc;have i1:(0:Int)<=(m:Int):=by omega
    have i2:(m:Int) < (ks.length:Int):=by omega
    clear hcs hcc
    go_upto_region 12 with fail
    have HE:Hid (((wr.alloc (Obj.cells #[.int .i64 c.A,.int .i64 c.B,.slice ka c.kids.length kcap] 56)).alloc (Obj.cells #[] 53)).ownsRow (Q+1) 53 2 (.slice (some ⟨wr.heap.size+1,0,none⟩) 0 0) 0 []):=by
     have:=World.ownsRow_lit (base:=Q+1) (e:=53) (size:=2) (wr.alloc (Obj.cells #[.int .i64 c.A,.int .i64 c.B,.slice ka c.kids.length kcap] 56)) #[] 0 (by simp;omega) (by unfold maxLen;omega) rfl;rw[World.size_alloc]at this;exact this
    have HN:Hid (∀j u,(gQ c.kids)[j]?= some u->∃b,ka=some b/\((wr.alloc (Obj.cells #[.int .i64 c.A,.int .i64 c.B,.slice ka c.kids.length kcap] 56)).alloc (Obj.cells #[] 53)).cell? (b.add j)=some u):=fun j u hj=>by
     obtain⟨b',e,h'⟩:=aJh HKK.out j u hj;exact⟨b',e,cE _ (cE _ h')⟩
    have HKX:Hid (aD ((wr.alloc (Obj.cells #[.int .i64 c.A,.int .i64 c.B,.slice ka c.kids.length kcap] 56)).alloc (Obj.cells #[] 53)) wr.heap.size 56 #[.int .i64 c.A,.int .i64 c.B,.slice ka c.kids.length kcap]):=(aD.new wr _ _).alloc _;have HB3:Hid (Below wr.heap.size wr ((wr.alloc (Obj.cells #[.int .i64 c.A,.int .i64 c.B,.slice ka c.kids.length kcap] 56)).alloc (Obj.cells #[] 53))):=((e_ _ _).alloc (a_ _) _).alloc (by simp) _;obtain⟨W3,hW3⟩:∃W3,(wr.alloc (Obj.cells #[.int .i64 c.A,.int .i64 c.B,.slice ka c.kids.length kcap] 56)).alloc (Obj.cells #[] 53)=W3:=⟨_,rfl⟩;have sz3:W3.heap.size=wr.heap.size+2:=by rw[<-hW3];simp
    rw[hW3]at HE HN HKX HB3;have z2:=HKX.out.cell (o:=2) rfl
    go_upto_region 13 with(at_builtin;refine kE rfl _ _ _ rfl (Q+1) 53 iD _ 2 16 underlying54 hiD hzD0 hzD1 hzD2 rfl (by omega) (.slice (some ⟨wr.heap.size+1,0,none⟩) 0 0) 0 [] rfl HE.out ka c.kids.length kcap (gQ c.kids) rfl (mT _) HN.out (wF _) (by unfold maxLen;omega) (by omega) (by omega) ?_;intro v3 w4 hown4 hgrow4;rw[Nat.zero_add,List.nil_append]at hown4;obtain⟨a4,c4,rfl⟩:=bG hown4;have hkx4:aD w4 wr.heap.size 56 #[.int .i64 c.A,.int .i64 c.B,.slice ka c.kids.length kcap]:=(hgrow4.block _ (by omega) (by simp[Value.ownBlock])).trans HKX.out;have x2:=hkx4.cell (o:=2) rfl;have y2:=hkx4.frozen 2)
    obtain⟨W5,hW5⟩:∃W5,w4.setCell ⟨wr.heap.size,2,none⟩ (.slice a4 c.kids.length c4)=W5:=⟨_,rfl⟩;have HKX5:Hid (aD W5 wr.heap.size 56 #[.int .i64 c.A,.int .i64 c.B,.slice a4 c.kids.length c4]):=by rw[<-hW5];exact hkx4.setAt 2 _
    have hk34:aB (fun b=>wr.heap.size<=b) W3 w4:=aB.grown hgrow4 (fun r e=>by simp[Value.ownBlock]at e;omega);have hk45:aB (fun b=>b=wr.heap.size) w4 W5:=by rw[<-hW5];exact(aB.refl _ _).setCell (.inl (by rfl)) _
    have hb5:Below wr.heap.size wr W5:=(HB3.out.trans (hk34.below (by omega) (fun _ h=>h))).trans (hk45.below (by have:=hk34.size;omega) (fun _ h=>by omega));have HOWN5:Hid (W5.ownsRow (Q+1) 53 2 (.slice a4 c.kids.length c4) c.kids.length (gQ c.kids)):=aP hown4 hk45 (fun g e h=>by subst h;exact bF hown4 hkx4 (by decide) e) (a_ _);have HB5:Hid (Below wr.heap.size wr W5):=hb5;have sz5:=hb5.size;have hQr:=HBQ.out.lt;have HROW5:Hid (lD W5 (Q+1) v l):=HROW.out.below hb5;have HBQ5:Hid (aD W5 Q 41 #[v,.int .i64 kind,.int .i64 arg]):=HBQ.out.below hb5 hQr;obtain⟨av,cv,hvf⟩:=bG HROW.out.1;have HVF:Hid (v= .slice av l.length cv):=hvf;subst hvf;rw[hW5];clear hW5 hW3 hkx4 x2 y2 z2 hown4 hgrow4 hk34 hk45 hb5 p0 c0 c1 c2;have q0:=HBQ5.out.cell (o:=0) rfl;have x0:=HKX5.out.cell (o:=0) rfl;have x1:=HKX5.out.cell (o:=1) rfl;have x2:=HKX5.out.cell (o:=2) rfl;have hkx:wr.heap.size < W5.heap.size:=HKX5.out.lt
    go_wp2_with (at_builtin;refine wpList_append_own _ rfl _ _ _ rfl (Q+1) 56 iK _ 3 40 underlying39 hiK hzK0 hzK1 hzK2 rfl (by omega) (.slice av l.length cv) l.length (mJ l) rfl (HROW5.out.1.alloc _) ⟨W5.heap.size,0,none⟩ 1 1 [.int .i64 c.A,.int .i64 c.B,.slice a4 c.kids.length c4] rfl rfl (World.news_of_block (cs:=#[.int .i64 c.A,.int .i64 c.B,.slice a4 c.kids.length c4]) (t:=56) (fr:=(0,0)) (heap_alloc_new W5 _)) (by simp[Value.oneCell']) (by unfold maxLen;omega) (by omega) (by simp;omega) ?_;intro v7 w7 hown7 hgrow7 _;obtain⟨a7,c7,rfl⟩:=bG hown7;have hbq7:aD w7 Q 41 #[.slice av l.length cv,.int .i64 kind,.int .i64 arg]:=(hgrow7.block Q (by simp;omega) (fun e=>bF (HROW5.out.1.alloc _) (HBQ5.out.alloc (Obj.cells #[.int .i64 c.A,.int .i64 c.B,.slice a4 c.kids.length c4] 56)) (by decide) e.symm)).trans (HBQ5.out.alloc _);have q7:=hbq7.cell (o:=0) rfl;have f7:=hbq7.frozen 0)
    go_roundw
    case rel=>
     have k57:aB (fun b=>(Value.slice av l.length cv).ownBlock=some b) W5 w7:=(aB.alloc _ _ _).trans (aB.grown hgrow7 (fun r e=>e));have k78:aB (·= Q) w7 (w7.setCell ⟨Q,0,none⟩ (.slice a7 (l.length+1) c7)):=(aB.refl _ _).setCell (.inl (by rfl)) _;have hvQ:(Value.slice av l.length cv).ownBlock≠some Q:=bF HROW5.out.1 HBQ5.out (by decide);have hkids:∀(u:Value) (d:List eI),W5.ownsRow (Q+1) 53 2 u d.length (gQ d)->(w7.setCell ⟨Q,0,none⟩ (.slice a7 (l.length+1) c7)).ownsRow (Q+1) 53 2 u d.length (gQ d):=fun u d h=>by
      have h7:w7.ownsRow (Q+1) 53 2 u d.length (gQ d):=aP h k57 (fun g e h'=>by
       obtain⟨cs1,h1⟩:=eO h e;obtain⟨cs2,h2⟩:=eO HROW5.out.1 h';have:=h1.symm.trans h2;simp at this) (a_ _)
      exact aP h7 k78 (fun g e h'=>by subst h';exact bF h7 hbq7 (by decide) e) (a_ _)
     refine⟨m+1,l++ [(c,.slice a4 c.kids.length c4)],_,by omega,by go_num,?_,⟨?_,fun p hp=> ?_⟩,hbq7.setAt 0 _,?_⟩
     ·rw[List.map_append,HLM.out,List.take_add_one,HCC.out];rfl
     ·rw[aBu,f_]
      exact aP hown7 k78 (fun g e h'=>by subst h';exact bF hown7 hbq7 (by decide) e) (a_ _)
     ·rcases List.mem_append.1 hp with h|h
      ·exact hkids _ _ (HROW5.out.2 p h)
      ·simp only[List.mem_singleton]at h
       subst h;exact hkids _ _ HOWN5.out
     ·refine((HKW.out.andThen (aB.of_below HB5.out (X:=fun b=>wr.heap.size<=b) (fun _ _ h=>h)) (fun b h1 h2=>by omega)).andThen k57 (fun b h1 h2=> ?_)).trans k78
      have:=(HROW5.out.1.lt b h2).1;omega
    case measure=>simp[intOf];omega
   ·obtain rfl:m=ks.length:=by omega
    have c0:=HCr.out.cell (o:=0) rfl;have c1:=HCr.out.cell (o:=1) rfl;have c2:=HCr.out.cell (o:=2) rfl;have q0:=HBQ.out.cell (o:=0) rfl;have q1:=HBQ.out.cell (o:=1) rfl;have q2:=HBQ.out.cell (o:=2) rfl;obtain⟨av0,cv0,hvf⟩:=bG HROW.out.1;subst hvf
    go_upto_region 16 with fail
    obtain⟨R,hR⟩:∃R,wr.heap.size=R:=⟨_,rfl⟩;obtain⟨w3,hw3⟩:∃w3,wr.alloc (Obj.cells (gK (gJ n room mode ks kind arg 0 0) (.slice av0 l.length cv0) (.slice none 0 0) (.slice none 0 0) (.slice none 0 0) (.slice none 0 0) (.slice none 0 0)) 141)=w3:=⟨_,rfl⟩;have hb3:Below wr.heap.size wr w3:=by rw[<-hw3];exact(e_ _ _).alloc (a_ _) _
    have sz3:w3.heap.size=R+1:=by rw[<-hw3,<-hR];simp
    have HR3:Hid (aD w3 R 141 (gK (gJ n room mode ks kind arg 0 0) (.slice av0 l.length cv0) (.slice none 0 0) (.slice none 0 0) (.slice none 0 0) (.slice none 0 0) (.slice none 0 0))):=by rw[<-hw3,<-hR];exact aD.new wr _ _
    rw[show wr.alloc (Obj.cells #[.int .i64 n,.int .i64 room,.int .i64 mode,.slice av0 l.length cv0,.int .i64 kind,.int .i64 arg,.slice none 0 0,.slice none 0 0,.slice none 0 0,.slice none 0 0,.int .i64 0,.slice none 0 0,.bool false,.bool false,.bool false] 141)=w3 from hw3,hR];have HKN:Hid (bH (fun b=>Q+1<=b/\b < R) w3 (.slice av0 l.length cv0) ks):=by
     have h:=HROW.out.at.below;rw[HLM.out,List.take_length,hR]at h;exact h.kept (aB.of_below hb3 (X:=fun b=>wr.heap.size<=b) (fun _ _ h=>h)) (fun b h1 h2=>by omega)
    have HC3:Hid (aD w3 w.heap.size 38 #[.int .i64 n,.int .i64 room,.int .i64 mode]):=HCr.out.below hb3 (by omega);have HP3:Hid (aD w3 (w.heap.size+1) 41 #[.slice a ks.length cap,.int .i64 kind,.int .i64 arg]):=HPr.out.below hb3 (by omega);have HB3:Hid (Below w.heap.size w w3):=(HB2.out.trans (HKW.out.below (by have:=HB2.out.size;omega) (fun b h=>by omega))).trans (hb3.mono (by omega));have hRQ:Q+1<=R:=by have:=HBQ.out.lt;omega
    clear c0 c1 c2 q0 q1 q2 p0 hw3 hb3 hR
    go_loopw [12] (fun i wx=>∃(m:Nat) (part:Nat->Nat),m<=n/\i= .int .i64 m/\(∀b,part b≠0->Q+1<=b/\(part b=6\/R<=b))/\lS part wx R (gJ n room mode ks kind arg m m)/\Below R w3 wx) (fun i _=>n - (intOf i).toNat)
    case atStart=>
     refine⟨0,fun b=>if b=R then 1 else if Q+1<=b/\b < R then 6 else 0,Nat.zero_le _,rfl,fun b hb=> ?_,⟨_,_,_,_,_,_,[],[],HR3.out,by simp,HKN.out.mono' (fun b h=> ?_),⟨cO.nil _ _ _ _ _,rfl,fun i p x h=>by simp at h⟩,⟨cO.nil _ _ _ _ _,rfl,fun i r ls h=>by simp at h⟩,cO.nil _ _ _ _ _,cO.nil _ _ _ _ _,cO.nil _ _ _ _ _⟩,e_ _ _⟩
     ·dsimp only at hb ⊢
      by_cases h:b=R
      ·omega
      ·rw[if_neg h]at hb ⊢
       by_cases h':Q+1<=b/\b < R
       ·rw[if_pos h'];exact⟨h'.1,.inl rfl⟩
       ·rw[if_neg h']at hb;exact absurd rfl hb
     ·exact(if_neg (by omega)).trans (if_pos h)
    case round=>
     obtain⟨m,part,hm,rfl,hpl,hra,hbx⟩:=hrel
     rename World=>wx
     have szx:=hbx.size;have HBX:Hid (Below R w3 wx):=hbx;have HPL:Hid (∀b,part b≠0->Q+1<=b/\(part b=6\/R<=b)):=hpl;have HCx:Hid (aD wx w.heap.size 38 #[.int .i64 n,.int .i64 room,.int .i64 mode]):=HC3.out.below hbx (by omega);have HPx:Hid (aD wx (w.heap.size+1) 41 #[.slice a ks.length cap,.int .i64 kind,.int .i64 arg]):=HP3.out.below hbx (by omega);have c0:=HCx.out.cell (o:=0) rfl;obtain⟨kv,wv,lv,yv,vv,av,ps,rows,hbR,hpR,hks,⟨hwr,hwl,hws⟩,⟨hlr,hll',hls⟩,hyr,hvr,har⟩:=hra;have HBR:Hid (aD wx R 141 (gK (gJ n room mode ks kind arg m m) kv wv lv yv vv av)):=hbR;have HPR:Hid (part R=1):=hpR;have HKS:=aC hks;have HWR:=aC hwr;have HWL:Hid (ps.length=m):=by show ps.length=m;rw[hwl];simp[gJ]
     have HWS:=aC hws;have HLR:=aC hlr;have HLL':Hid (rows.length=m):=by show rows.length=m;rw[hll'];simp[gJ]
     have HLS:=aC hls;have HYR:=aC hyr;have HVR:=aC hvr;have HAR:=aC har;obtain⟨wa,wc,hwf⟩:=bG hwr.1;obtain⟨la,lc,hlf⟩:=bG hlr.1;subst hwf hlf;have b6:=hbR.cell (o:=6) rfl;have hRx:=hbR.lt;clear hbx hpl hbR hpR hks hwr hwl hws hlr hll' hls hyr hvr har;by_cases hlt2:m < n
     ·have i1:(m:Int) < (n:Int):=by omega
      have HROWx:Hid (wx.ownsRow 0 178 1 (.slice wa ps.length wc) ps.length (ps.flatMap jJ)):=HWR.out.1;have hps5:ps.length<=5:=by have:=HWL.out;omega
      have hR7:(Value.slice wa ps.length wc).ownBlock≠some R:=bF HROWx.out HBR.out (by decide);have HR7:Hid ((Value.slice wa ps.length wc).ownBlock≠some R):=hR7;have HP7:Hid (∀g,(Value.slice wa ps.length wc).ownBlock=some g->part g=7/\g < wx.heap.size):=fun g e=>⟨HWR.out.2 g e,(HROWx.out.lt g e).2⟩
      obtain⟨W0,hW0⟩:∃W0,(wx.alloc (Obj.cells (fB (.slice none 0 0) cR) 180)).alloc (Obj.cells #[.pointer (some ⟨wx.heap.size,0,none⟩)] 178)=W0:=⟨_,rfl⟩;have sz0:W0.heap.size=wx.heap.size+2:=by rw[<-hW0];simp
      have hb0:Below wx.heap.size wx W0:=by rw[<-hW0];exact((e_ _ _).alloc (a_ _) _).alloc (by simp) _
      have HW0:Hid (aD W0 wx.heap.size 180 (fB (.slice none 0 0) cR)):=by rw[<-hW0];exact(aD.new wx _ _).alloc _
      have HN0:Hid (W0.heap[wx.heap.size+1]?= some (Obj.cells #[.pointer (some ⟨wx.heap.size,0,none⟩)] 178)):=by
       rw[<-hW0];have:=heap_alloc_new (wx.alloc (Obj.cells (fB (.slice none 0 0) cR) 180)) (Obj.cells #[.pointer (some ⟨wx.heap.size,0,none⟩)] 178);rw[World.size_alloc]at this;exact this
      have HRW0:Hid (W0.ownsRow 0 178 1 (.slice wa ps.length wc) ps.length (ps.flatMap jJ)):=gP HROWx.out hb0 (fun g e=>(HROWx.out.lt g e).2);have HBR0:Hid (aD W0 R 141 (gK (gJ n room mode ks kind arg m m) kv (.slice wa ps.length wc) (.slice la rows.length lc) yv vv av)):=HBR.out.below hb0 hRx;have HB0:Hid (Below wx.heap.size wx W0):=hb0;have hW0':(wx.alloc (Obj.cells #[.slice none 0 0,.bool false,.int .i64 0,.int .i64 0,.bool false,.bool false,.int .i64 0,.int .i64 0,.int .i64 0,.int .i64 0,.string ⟨#[]⟩,.int .i64 0,.int .i64 0,.string ⟨#[]⟩,.int .i64 0,.bool false,.bool false,.int .i64 0,.int .i64 0,.int .i64 0,.int .i64 0] 180)).alloc (Obj.cells #[.pointer (some ⟨wx.heap.size,0,none⟩)] 178)=W0:=hW0;clear hW0 hb0 hR7
      go_upto_region 21 with(at_builtin;refine nL rfl _ _ _ rfl 0 178 iW _ 1 8 underlying137 hiW hzW0 hzW1 hzW2 rfl (by omega) (.slice wa ps.length wc) ps.length (ps.flatMap jJ) rfl HRW0.out ⟨wx.heap.size+1,0,none⟩ 1 1 [.pointer (some ⟨wx.heap.size,0,none⟩)] rfl rfl (World.news_of_block (fr:=(0,0)) HN0.out) (by simp[Value.oneCell']) (by omega) (by unfold maxLen;omega) (by omega) (Nat.zero_le _) ?_;intro g4 c4 w4 hown4 hgrow4 hat4 _;have hbR4:aD w4 R 141 (gK (gJ n room mode ks kind arg m m) kv (.slice wa ps.length wc) (.slice la rows.length lc) yv vv av):=(hgrow4.block R (by omega) (fun e=>HR7.out e.symm)).trans HBR0.out;have q4:=hbR4.cell (o:=6) rfl;have f4:=hbR4.frozen 6)
      obtain⟨W1,hW1⟩:∃W1,w4.setCell ⟨R,6,none⟩ (.slice (some ⟨g4,0,none⟩) (ps.length+1) c4)=W1:=⟨_,rfl⟩;have HR1:Hid (aD W1 R 141 (gK (gJ n room mode ks kind arg (m+1) m) kv (.slice (some ⟨g4,0,none⟩) (ps.length+1) c4) (.slice la rows.length lc) yv vv av)):=by rw[<-hW1];exact hbR4.setAt 6 _
      have k04:aB (fun b=>(Value.slice wa ps.length wc).ownBlock=some b) W0 w4:=aB.grown hgrow4 (fun r e=>e);have k41:aB (·= R) w4 W1:=by rw[<-hW1];exact(aB.refl _ _).setCell (.inl (by rfl)) _
      have hg4R:(Value.slice (some ⟨g4,0,none⟩) (ps.length+1) c4).ownBlock≠some R:=bF hown4 hbR4 (by decide);have HROW1:Hid (W1.ownsRow 0 178 1 (.slice (some ⟨g4,0,none⟩) (ps.length+1) c4) (ps.length+1) (ps.flatMap jJ++ [.pointer (some ⟨wx.heap.size,0,none⟩)])):=aP hown4 k41 (fun g e h=>by subst h;exact hg4R e) (a_ _);have HWN:Hid (aD W1 wx.heap.size 180 (fB (.slice none 0 0) cR)):=(HW0.out.kept k04 (fun e=>by have:=(HP7.out _ e).2;omega)).kept k41 (by omega);have k1:aB (fun b=>part b=7\/b=R) wx W1:=((aB.of_below HB0.out (X:=fun b=>part b=7\/b=R) (fun b h1 h2=>by omega)).andThen k04 (fun b h1 h2=> .inl (HP7.out b h2).1)).andThen k41 (fun b _ h=> .inr h);have szW1:=k1.size;have sz04:=k04.size;have HG4:Hid ((g4 < wx.heap.size/\part g4=7)\/wx.heap.size+2<=g4):=by
       rcases hat4 with h|h
       ·exact .inl ⟨(HP7.out _ h).2,(HP7.out _ h).1⟩
       ·exact .inr (by omega)
      have HBW1:Hid (Below R w3 W1):=HBX.out.trans (k1.below (B:=R) (by omega) (fun b h=>by
       rcases h with h|h
       ·have:=(HPL.out b (by omega)).2
        omega
       ·omega))
      have hg:∀t,t≠0->t≠1->t≠7->∀g,g < wx.heap.size->part g=t->¬(part g=7\/g=R)/\(fun b=>if b < wx.heap.size then part b else if b=wx.heap.size then 10+m else if b=wx.heap.size+1 then 0 else 7) g=t:=fun t h0 h1 h7 g hl e=>⟨fun h=>by
       rcases h with h|h
       ·omega
       ·subst h;have:=HPR.out;omega,(if_pos hl).trans e⟩
      have HRA1:Hid (lS (fun b=>if b < wx.heap.size then part b else if b=wx.heap.size then 10+m else if b=wx.heap.size+1 then 0 else 7) W1 R (gJ n room mode ks kind arg (m+1) m)):=by
       refine⟨kv,_,_,yv,vv,av,ps++ [wx.heap.size],rows,HR1.out,(if_pos hRx).trans HPR.out,?_,⟨⟨?_,fun g e=> ?_⟩,?_,fun i p x hp hx=> ?_⟩,⟨HLR.out.kept k1 (hg 8 (by omega) (by omega) (by omega)),by rw[HLL'.out];simp[gJ],fun i r ls hr hl=> ?_⟩,HYR.out.kept k1 (hg 2 (by omega) (by omega) (by omega)),HVR.out.kept k1 (hg 3 (by omega) (by omega) (by omega)),HAR.out.kept k1 (hg 4 (by omega) (by omega) (by omega))⟩
       ·exact(HKS.out.below.kept k1 (fun b hb=>(hg 6 (by omega) (by omega) (by omega) b hb.2 hb.1).1)).mono' (fun b hb=>(hg 6 (by omega) (by omega) (by omega) b hb.2 hb.1).2)
       ·rw[f_,List.flatMap_append];exact HROW1.out
       ·simp[Value.ownBlock]at e
        subst e;rcases HG4.out with h|h
        ·exact(if_pos h.1).trans h.2
        ·exact(if_neg (by omega)).trans ((if_neg (by omega)).trans (if_neg (by omega)))
       ·rw[f_,HWL.out];simp[gJ]
       ·have hxw:=lX hx
        subst hxw;rcases jV hp with⟨hi,hp'⟩|⟨hi,rfl⟩
        ·exact(HWS.out i p cR hp' (by rw[HWL.out]at hi;simp[gJ,hi])).kept k1 (hg _ (by omega) (by omega) (by omega))
        ·subst hi
         exact⟨_,HWN.out,by rw[HWL.out];exact(if_neg (by omega)).trans (if_pos rfl),cO.nil _ _ _ _ _⟩
       ·exact(HLS.out i r ls hr hl).kept k1 (fun g hl' e=>⟨(hg _ (by omega) (by omega) (by omega) g hl' rfl).1,(hg _ (by omega) (by omega) (by omega) g hl' rfl).2⟩)
      have HX1:Hid (∃part1:Nat->Nat,(∀b,part1 b≠0->Q+1<=b/\(part1 b=6\/R<=b))/\lS part1 W1 R (gJ n room mode ks kind arg (m+1) m)):=by
       refine⟨_,fun b hb=> ?_,HRA1.out⟩;by_cases h:b < wx.heap.size
       ·rw[if_pos h]at hb ⊢
        exact HPL.out b hb
       ·exact⟨by omega,.inr (by omega)⟩
      obtain⟨sW1,hsW1⟩:∃sW1,W1.heap.size=sW1:=⟨_,rfl⟩;have HC4:Hid (aD W1 w.heap.size 38 #[.int .i64 n,.int .i64 room,.int .i64 mode]):=HC3.out.below HBW1.out (by omega);rw[hW1];clear hW1 hW0' hown4 hgrow4 hat4 hbR4 q4 f4 k04 k41 hg4R hg HRA1 b6 c0 HWR HWS HLR HLS HYR HVR HAR HKS HBR HROWx HR7 HP7 HW0 HN0 HRW0 HBR0 HB0 HR1 HROW1 HWN HG4 k1;have HW3:Hid (w3.heap.size=R+1):=sz3
      go_loopw [13,14] (fun rv kx wy=>∃(k:Nat) (part:Nat->Nat) (qs:List Nat),k<=n/\kx= .int .i64 k/\(∀b,part b≠0->Q+1<=b/\(part b=6\/R<=b))/\lS part wy R (gJ n room mode ks kind arg (m+1) m)/\cO (fun b=>part b=5) 182 1 jJ wy rv qs/\qs.length=k/\(∀j q,qs[j]?= some q->lG (fun b=>part b=100+10*m+j) wy q cN)/\Below R w3 wy) (fun _ kx _=>n - (intOf kx).toNat)
      case atStart=>
       obtain⟨part1,h1,h2⟩:=HX1.out;exact⟨0,part1,[],Nat.zero_le _,rfl,h1,h2,cO.nil _ _ _ _ _,rfl,(fun j q h=>by simp at h),HBW1.out⟩
      case round=>
       obtain⟨k,part2,qs,hk,rfl,hpl2,hra2,hrow2,hql,hqs,hby⟩:=hrel
       rename World=>wy
       have szy:=hby.size;have HBY:Hid (Below R w3 wy):=hby;have HPL2:Hid (∀b,part2 b≠0->Q+1<=b/\(part2 b=6\/R<=b)):=hpl2;have HRA2:=aC hra2;have HROW2:=aC hrow2;have HQL:Hid (qs.length=k):=hql;have HQS:=aC hqs;have HCy:Hid (aD wy w.heap.size 38 #[.int .i64 n,.int .i64 room,.int .i64 mode]):=HC3.out.below hby (by omega);have c0:=HCy.out.cell (o:=0) rfl;obtain⟨ra,rc,hrf⟩:=bG hrow2.1;subst hrf;have hq5:qs.length<=5:=by omega
       clear hby hpl2 hra2 hrow2 hql hqs;by_cases hlt3:k < n
       ·have i2:(k:Int) < (n:Int):=by omega
        have HP5:Hid (∀g,(Value.slice ra qs.length rc).ownBlock=some g->part2 g=5/\g < wy.heap.size):=fun g e=>⟨HROW2.out.2 g e,(HROW2.out.1.lt g e).2⟩
        obtain⟨W0,hW0⟩:∃W0,(wy.alloc (Obj.cells #[.slice none 0 0,.int .i64 0,.int .i64 0,.slice none 0 0] 184)).alloc (Obj.cells #[.pointer (some ⟨wy.heap.size,0,none⟩)] 182)=W0:=⟨_,rfl⟩;have sz0:W0.heap.size=wy.heap.size+2:=by rw[<-hW0];simp
        have hb0:Below wy.heap.size wy W0:=by rw[<-hW0];exact((e_ _ _).alloc (a_ _) _).alloc (by simp) _
        have HL0:Hid (aD W0 wy.heap.size 184 #[.slice none 0 0,.int .i64 0,.int .i64 0,.slice none 0 0]):=by rw[<-hW0];exact(aD.new wy _ _).alloc _
        have HN0:Hid (W0.heap[wy.heap.size+1]?= some (Obj.cells #[.pointer (some ⟨wy.heap.size,0,none⟩)] 182)):=by
         rw[<-hW0];have:=heap_alloc_new (wy.alloc (Obj.cells #[.slice none 0 0,.int .i64 0,.int .i64 0,.slice none 0 0] 184)) (Obj.cells #[.pointer (some ⟨wy.heap.size,0,none⟩)] 182);rw[World.size_alloc]at this;exact this
        have HRW0:Hid (W0.ownsRow 0 182 1 (.slice ra qs.length rc) qs.length (qs.flatMap jJ)):=gP HROW2.out.1 hb0 (fun g e=>(HROW2.out.1.lt g e).2);have HB0:Hid (Below wy.heap.size wy W0):=hb0;clear hb0
        go_wp2_with (at_builtin;refine nL rfl _ _ _ rfl 0 182 iL _ 1 8 underlying181 hiL hzL0 hzL1 hzL2 rfl (by omega) (.slice ra qs.length rc) qs.length (qs.flatMap jJ) rfl HRW0.out ⟨wy.heap.size+1,0,none⟩ 1 1 [.pointer (some ⟨wy.heap.size,0,none⟩)] rfl rfl (World.news_of_block (fr:=(0,0)) HN0.out) (by simp[Value.oneCell']) (by omega) (by unfold maxLen;omega) (by omega) (Nat.zero_le _) ?_;intro g4 c4 w4 hown4 hgrow4 hat4 _)
        go_roundw
        case rel=>
         have k04:aB (fun b=>(Value.slice ra qs.length rc).ownBlock=some b) W0 w4:=aB.grown hgrow4 (fun r e=>e);have k1:aB (fun b=>part2 b=5) wy w4:=(aB.of_below HB0.out (X:=fun b=>part2 b=5) (fun b h1 h2=>by omega)).andThen k04 (fun b h1 h2=>(HP5.out b h2).1);refine⟨k+1,fun b=>if b < wy.heap.size then part2 b else if b=wy.heap.size then 100+10*m+k else if b=wy.heap.size+1 then 0 else 5,qs++ [wy.heap.size],by omega,by go_num,fun b hb=> ?_,HRA2.out.kept k1 (fun g hg h0 h5=>⟨h5,if_pos hg⟩),⟨by rw[f_,List.flatMap_append];exact hown4,fun g e=> ?_⟩,by rw[f_,HQL.out];rfl,fun j q hq=> ?_,HBY.out.trans (k1.below (B:=R) (by omega) (fun b h=>by have:=(HPL2.out b (by omega)).2;omega))⟩
         ·dsimp only at hb ⊢
          by_cases h:b < wy.heap.size
          ·rw[if_pos h]at hb ⊢
           exact HPL2.out b hb
          ·exact⟨by omega,.inr (by omega)⟩
         ·simp[Value.ownBlock]at e
          subst e;rcases hat4 with h|h
          ·exact(if_pos (HP5.out _ h).2).trans (HP5.out _ h).1
          ·exact(if_neg (by omega)).trans ((if_neg (by omega)).trans (if_neg (by omega)))
         ·rcases jV hq with⟨hi,hq'⟩|⟨hi,rfl⟩
          ·exact(HQS.out j q hq').kept k1 (fun g hg e=>⟨by omega,(if_pos hg).trans e⟩)
          ·refine⟨_,_,HL0.out.kept k04 (fun e=>by have:=(HP5.out _ e).2;omega),?_,cO.nil _ _ _ _ _,cO.nil _ _ _ _ _⟩
           rw[hi,HQL.out];exact(if_neg (by omega)).trans (if_pos rfl)
        case measure=>simp[intOf];omega
       ·obtain rfl:n=k:=by omega
        obtain⟨kv2,wv2,lv2,yv2,vv2,av2,ps2,rows2,hbR,hpR,hks,⟨hwr,hwl,hws⟩,⟨hlr,hll',hls⟩,hyr,hvr,har⟩:=HRA2.out;have HBR:Hid (aD wy R 141 (gK (gJ n room mode ks kind arg (m+1) m) kv2 wv2 lv2 yv2 vv2 av2)):=hbR;have HPR:Hid (part2 R=1):=hpR;have HKS:=aC hks;have HWR:=aC hwr;have HWL2:=aC hwl;have HWS:=aC hws;have HLR:=aC hlr;have HLL2:Hid (rows2.length=m):=by show rows2.length=m;rw[hll'];simp[gJ]
        have HLS:=aC hls;have HYR:=aC hyr;have HVR:=aC hvr;have HAR:=aC har;obtain⟨la2,lc2,hlf⟩:=bG hlr.1;subst hlf;have b7:=hbR.cell (o:=7) rfl;have hRy:=hbR.lt;have hr5:rows2.length<=5:=by have:=HLL2.out;omega
        have HROWL:Hid (wy.ownsRow 0 181 1 (.slice la2 rows2.length lc2) rows2.length (rows2.flatMap (fun r=>[r.1]))):=hlr.1;have HRL:Hid ((Value.slice la2 rows2.length lc2).ownBlock≠some R):=bF hlr.1 hbR (by decide);have HP8:Hid (∀g,(Value.slice la2 rows2.length lc2).ownBlock=some g->part2 g=8/\g < wy.heap.size):=fun g e=>⟨hlr.2 g e,(hlr.1.lt g e).2⟩
        clear hbR hpR hks hwr hwl hws hlr hll' hls hyr hvr har;obtain⟨W0,hW0⟩:∃W0,wy.alloc (Obj.cells #[.slice ra qs.length rc] 181)=W0:=⟨_,rfl⟩;have sz0:W0.heap.size=wy.heap.size+1:=by rw[<-hW0];simp
        have hb0:Below wy.heap.size wy W0:=by rw[<-hW0];exact(e_ _ _).alloc (a_ _) _
        have HN0:Hid (W0.heap[wy.heap.size]?= some (Obj.cells #[.slice ra qs.length rc] 181)):=by rw[<-hW0];exact heap_alloc_new wy _
        have HRW0:Hid (W0.ownsRow 0 181 1 (.slice la2 rows2.length lc2) rows2.length (rows2.flatMap (fun r=>[r.1]))):=gP HROWL.out hb0 (fun g e=>(HROWL.out.lt g e).2);have HBR0:Hid (aD W0 R 141 (gK (gJ n room mode ks kind arg (m+1) m) kv2 wv2 (.slice la2 rows2.length lc2) yv2 vv2 av2)):=HBR.out.below hb0 hRy;have HB0:Hid (Below wy.heap.size wy W0):=hb0;clear hb0
        go_wp2_with (at_builtin;refine nL rfl _ _ _ rfl 0 181 iS _ 1 24 underlying138 hiS hzS0 hzS1 hzS2 rfl (by omega) (.slice la2 rows2.length lc2) rows2.length (rows2.flatMap (fun r=>[r.1])) rfl HRW0.out ⟨wy.heap.size,0,none⟩ 1 1 [.slice ra qs.length rc] rfl rfl (World.news_of_block (fr:=(0,0)) HN0.out) (by simp[Value.oneCell']) (by omega) (by unfold maxLen;omega) (by omega) (Nat.zero_le _) ?_;intro g4 c4 w4 hown4 hgrow4 hat4 _;have hbR4:aD w4 R 141 (gK (gJ n room mode ks kind arg (m+1) m) kv2 wv2 (.slice la2 rows2.length lc2) yv2 vv2 av2):=(hgrow4.block R (by omega) (fun e=>HRL.out e.symm)).trans HBR0.out;have q4:=hbR4.cell (o:=7) rfl;have f4:=hbR4.frozen 7)
        go_roundw
        case rel=>
         obtain⟨W1,hW1⟩:∃W1,w4.setCell ⟨R,7,none⟩ (.slice (some ⟨g4,0,none⟩) (rows2.length+1) c4)=W1:=⟨_,rfl⟩;have hR1:aD W1 R 141 (gK (gJ n room mode ks kind arg (m+1) (m+1)) kv2 wv2 (.slice (some ⟨g4,0,none⟩) (rows2.length+1) c4) yv2 vv2 av2):=by rw[<-hW1];exact hbR4.setAt 7 _
         have k04:aB (fun b=>(Value.slice la2 rows2.length lc2).ownBlock=some b) W0 w4:=aB.grown hgrow4 (fun r e=>e);have k41:aB (·= R) w4 W1:=by rw[<-hW1];exact(aB.refl _ _).setCell (.inl (by rfl)) _
         have hg4R:(Value.slice (some ⟨g4,0,none⟩) (rows2.length+1) c4).ownBlock≠some R:=bF hown4 hbR4 (by decide);have k1:aB (fun b=>part2 b=8\/b=R) wy W1:=((aB.of_below HB0.out (X:=fun b=>part2 b=8\/b=R) (fun b h1 h2=>by omega)).andThen k04 (fun b h1 h2=> .inl (HP8.out b h2).1)).andThen k41 (fun b _ h=> .inr h);have sz1:=k1.size;have hg:∀t,t≠0->t≠1->t≠5->t≠8->∀g,g < wy.heap.size->part2 g=t->¬(part2 g=8\/g=R)/\(fun b=>if b < wy.heap.size then(if part2 b=5 then 9 else part2 b)else if b=wy.heap.size then 0 else 8) g=t:=fun t h0 h1 h5 h8 g hl e=>⟨fun h=>by
          rcases h with h|h
          ·omega
          ·subst h;have:=HPR.out;omega,(if_pos hl).trans ((if_neg (by omega)).trans e)⟩
         rw[hW1];refine⟨m+1,fun b=>if b < wy.heap.size then(if part2 b=5 then 9 else part2 b)else if b=wy.heap.size then 0 else 8,by omega,by go_num,fun b hb=> ?_,⟨kv2,wv2,_,yv2,vv2,av2,ps2,rows2++ [(.slice ra qs.length rc,qs)],hR1,(if_pos hRy).trans ((if_neg (by have:=HPR.out;omega)).trans HPR.out),?_,⟨HWR.out.kept k1 (hg 7 (by omega) (by omega) (by omega) (by omega)),HWL2.out,fun i p x hp hx=>(HWS.out i p x hp hx).kept k1 (hg _ (by omega) (by omega) (by omega) (by omega))⟩,⟨⟨?_,fun g e=> ?_⟩,?_,fun i r ls hr hl=> ?_⟩,HYR.out.kept k1 (hg 2 (by omega) (by omega) (by omega) (by omega)),HVR.out.kept k1 (hg 3 (by omega) (by omega) (by omega) (by omega)),HAR.out.kept k1 (hg 4 (by omega) (by omega) (by omega) (by omega))⟩,HBY.out.trans (k1.below (B:=R) (by omega) (fun b h=> ?_))⟩
         ·dsimp only at hb ⊢
          by_cases h:b < wy.heap.size
          ·rw[if_pos h]at hb ⊢
           by_cases h5:part2 b=5
           ·have:=HPL2.out b (by omega)
            omega
           ·rw[if_neg h5]at hb ⊢
            exact HPL2.out b hb
          ·exact⟨by omega,.inr (by omega)⟩
         ·exact(HKS.out.below.kept k1 (fun b hb=>(hg 6 (by omega) (by omega) (by omega) (by omega) b hb.2 hb.1).1)).mono' (fun b hb=>(hg 6 (by omega) (by omega) (by omega) (by omega) b hb.2 hb.1).2)
         ·rw[f_,List.flatMap_append]
          exact aP hown4 k41 (fun g e h=>by subst h;exact hg4R e) (a_ _)
         ·simp[Value.ownBlock]at e
          subst e;rcases hat4 with h|h
          ·exact(if_pos (HP8.out _ h).2).trans ((if_neg (by have:=(HP8.out _ h).1;omega)).trans (HP8.out _ h).1)
          ·exact(if_neg (by omega)).trans (if_neg (by omega))
         ·rw[f_,HLL2.out];simp[gJ]
         ·have hlw:=lX hl
          subst hlw;rcases jV hr with⟨hi,hr'⟩|⟨hi,rfl⟩
          ·exact(HLS.out i r _ hr' (by rw[HLL2.out]at hi;simp[gJ,hi])).kept k1 (fun g hg' e=>⟨(hg _ (by omega) (by omega) (by omega) (by omega) g hg' rfl).1,(hg _ (by omega) (by omega) (by omega) (by omega) g hg' rfl).2⟩)
          ·refine⟨HROW2.out.kept k1 (fun g hg' e=>⟨fun h=> ?_,(if_pos hg').trans (if_pos e)⟩),by rw[HQL.out];simp,fun j q x hq hx=> ?_⟩
           ·rcases h with h|h
            ·omega
            ·subst h;have:=HPR.out;omega
           ·have hxl:=lX hx
            subst hxl;rw[hi,HLL2.out];exact(HQS.out j q hq).kept k1 (hg _ (by omega) (by omega) (by omega) (by omega))
         ·rcases h with h|h
          ·have:=(HPL2.out b (by omega)).2
           omega
          ·omega
        case measure=>simp[intOf];omega
     ·obtain rfl:n=m:=by omega
      obtain⟨p,hp⟩:∃p,ps[0]?= some p:=⟨_,b_ (by have:=HWL.out;omega)⟩;have HP0:Hid (ps[0]?= some p):=hp;obtain⟨tv,hbp,hpp,htr⟩:=HWS.out 0 p cR hp (by show(List.replicate n cR)[0]?= some cR;rw[List.getElem?_replicate,if_pos (by omega)]);have HBPW:Hid (aD wx p 180 (fB tv cR)):=hbp;have HPP:Hid (part p=10):=hpp;obtain⟨gw,hgw,-,hgl,cg⟩:∃g,wa=some ⟨g,0,none⟩/\0<=g/\g < wx.heap.size/\wx.cell? ⟨g,0,none⟩=some (.pointer (some ⟨p,0,none⟩)):=by
       obtain⟨a9,c9,h9,hc9⟩:=jL HWR.out.1;cases h9;obtain⟨g,h1,h2,h3,h4⟩:=hc9 0 _ (by have:=dZ (sz:=1) (enc:=jJ) (fun _=>rfl) ps 0 p 0 (.pointer (some ⟨p,0,none⟩)) hp rfl;exact this);exact⟨g,h1,h2,h3,h4⟩
      subst hgw;have f0:=hbp.frozen 0;have f5:=hbp.frozen 5;have t0:=hbp.cell (o:=0) rfl;have t5:=hbp.cell (o:=5) rfl;have hpl3:=hbp.lt;have p1:=HPx.out.cell (o:=1) rfl;have p2:=HPx.out.cell (o:=2) rfl;have i3:(0:Int) < (ps.length:Int):=by have:=HWL.out;omega
      have i4:0 < ps.length:=by omega
      have hne:p≠wx.heap.size:=by omega
      have hne2:wx.heap.size≠p:=by omega
      clear hbp hpp htr hp
      go_upto_region 25 with fail
      go_region
      obtain⟨W1,hW1⟩:∃W1,((wx.setCell ⟨p,0,none⟩ (.slice (some ⟨wx.heap.size,0,none⟩) 1 1)).alloc (Obj.cells #[.string ⟨#[]⟩,.int .i64 kind,.int .i64 arg] 62)).drew=W1:=⟨_,rfl⟩;have hBP1:aD W1 p 180 (fB (.slice (some ⟨wx.heap.size,0,none⟩) 1 1) cR):=by rw[<-hW1];exact(HBPW.out.setAt 0 _).alloc _
      have k1:aB (·= p) wx W1:=by rw[<-hW1];exact(((aB.refl _ _).setCell (.inl (by rfl)) _).trans (aB.alloc _ _ _)).drew
      have hrow1:W1.ownsRow 0 62 3 (.slice (some ⟨wx.heap.size,0,none⟩) 1 1) 1 [.string ⟨#[]⟩,.int .i64 kind,.int .i64 arg]:=by
       rw[<-hW1];exact(rM (wx.setCell ⟨p,0,none⟩ (.slice (some ⟨wx.heap.size,0,none⟩) 1 1)) wx.heap.size 0 62 3 1 #[.string ⟨#[]⟩,.int .i64 kind,.int .i64 arg] _ (by simp) (Nat.zero_le _) rfl rfl (by unfold maxLen;omega)).drew
      have szW1:W1.heap.size=wx.heap.size+1:=by rw[<-hW1];simp
      have hRp:R≠p:=fun e=>by subst e;have h1:=HPR.out;have h2:=HPP.out;omega
      have hgp:gw≠p:=fun e=>by subst e;have h1:=HWR.out.2 gw rfl;have h2:=HPP.out;omega
      have hBR1:aD W1 R 141 (gK (gJ n room mode ks kind arg n n) kv (.slice (some ⟨gw,0,none⟩) ps.length wc) (.slice la rows.length lc) yv vv av):=HBR.out.kept k1 hRp;rw[hW1];clear b6 t0 t5 f0 f5 p1 p2 c0;have b6:=hBR1.cell (o:=6) rfl;have cg1:=(k1.cell (p:=⟨gw,0,none⟩) hgl hgp).trans cg;have t5:=hBP1.cell (o:=5) rfl;have f5:=hBP1.frozen 5;have HBP1:=aC hBP1;have HK1':=aC k1;have HROW1:=aC hrow1;clear hW1 cg k1 hrow1 hBR1 hBP1
      go_wp2_with fail
      go_ret2
      obtain⟨W2,hW2⟩:∃W2,W1.setCell ⟨p,5,none⟩ (.bool true)=W2:=⟨_,rfl⟩;have hBP2:aD W2 p 180 (fB (.slice (some ⟨wx.heap.size,0,none⟩) 1 1) {cR with tasks:=[⟨⟨#[]⟩,kind,arg⟩],has:=true}):=by rw[<-hW2];exact HBP1.out.setAt 5 _
      have k12:aB (·= p) W1 W2:=by rw[<-hW2];exact(aB.refl _ _).setCell (.inl (by rfl)) _
      have k2:aB (·= p) wx W2:=HK1'.out.trans k12;rw[hW2];have hg:∀t,t≠0->t≠10->∀g,g < wx.heap.size->part g=t->¬g=p/\(fun b=>if b < wx.heap.size then part b else 10) g=t:=fun t h0 h10 g hl e=>⟨fun h=>by subst h;have:=HPP.out;omega,(if_pos hl).trans e⟩
      refine⟨R,rfl,⟨fun b=>if b < wx.heap.size then part b else 10,fun b hb=> ?_,⟨kv,_,_,yv,vv,av,ps,rows,HBR.out.kept k2 hRp,(hg 1 (by omega) (by omega) R hRx HPR.out).2,?_,⟨HWR.out.kept k2 (hg 7 (by omega) (by omega)),?_,fun i p' x hp' hx=> ?_⟩,⟨HLR.out.kept k2 (hg 8 (by omega) (by omega)),by rw[HLL'.out];simp[dD],fun i r ls hr hl=> ?_⟩,HYR.out.kept k2 (hg 2 (by omega) (by omega)),HVR.out.kept k2 (hg 3 (by omega) (by omega)),HAR.out.kept k2 (hg 4 (by omega) (by omega))⟩⟩,?_⟩
      ·dsimp only at hb
       by_cases h:b < wx.heap.size
       ·rw[if_pos h]at hb
        have:=HPL.out b hb;omega
       ·omega
      ·exact(HKS.out.below.kept k2 (fun b hb=>(hg 6 (by omega) (by omega) b hb.2 hb.1).1)).mono' (fun b hb=>(hg 6 (by omega) (by omega) b hb.2 hb.1).2)
      ·rw[HWL.out];simp[dD];omega
      ·cases i with
       |zero=>
        have e1:p'=p:=by have:=HP0.out.symm.trans hp';simpa using this.symm
        have e2:x={cR with tasks:=[⟨⟨#[]⟩,kind,arg⟩],has:=true}:=by simp[dD]at hx;exact hx.symm
        subst e1 e2;refine⟨_,hBP2,(if_pos hpl3).trans HPP.out,aP HROW1.out k12 (fun g e h=> ?_) (a_ _),fun g e=> ?_⟩
        ·subst h
         simp[Value.ownBlock]at e;omega
        ·simp[Value.ownBlock]at e
         subst e;exact if_neg (by omega)
       |succ i=>
        have e2:x=cR:=by
         have:(List.replicate ((n:Int).toNat - 1) cR)[i]?= some x:=by simpa[dD]using hx
         exact lX this
        subst e2;have hi:i+1 < n:=by have:=(c_.1 hp').1;have:=HWL.out;omega
        exact(HWS.out (i+1) p' cR hp' (by show(List.replicate n cR)[i+1]?= some cR;rw[List.getElem?_replicate,if_pos hi])).kept k2 (hg _ (by omega) (by omega))
      ·exact(HLS.out i r ls hr (by simpa[dD,gJ]using hl)).kept k2 (fun g hg' e=>⟨(hg _ (by omega) (by omega) g hg' rfl).1,(hg _ (by omega) (by omega) g hg' rfl).2⟩)
      ·refine(HB3.out.trans (HBX.out.mono (by omega))).trans (k2.below (by omega) (fun b h=> ?_))
       have:=(HPL.out p (by have:=HPP.out;omega)).1;omega
end Go.Proofs.YtfanaanofjhlkaaGreatDoor
