import Derived.Test.YtfanaanofjhlkaaGreatDoorBegun
import Derived.Test.YtfanaanofjhlkaaGreatDoorScript
import Derived.Deep.AppendLies
set_option maxHeartbeats 16000000
set_option maxRecDepth 100000
namespace Go.Proofs.YtfanaanofjhlkaaGreatDoor
open Go Go.RowKit Tryz
theorem qP(last:Int)(hla:last=3\/last=8\/last=9\/last=12)(a:Option Addr)(cap:Nat)(l:List kN)(w:World)(hs:lZ w a l)(hl:l.length<=170000) :
  Calls prog 12 #[.slice a l.length cap,.int .i64 last] w fun e w'=>e= .returned (.bool true)/\Below w.heap.size w w':=by
 obtain⟨iT,hiT,hzT0,hzT1,hzT2⟩:=info_parts aLb;have HS:Hid (∀U,Below w.heap.size w U->lZ U a l):=fun U hU=>hs.later hU
 have HLA:=aC hla;have hl1:1<=last:=by omega
 clear hs hla;go_enter func12,ntmps12
 go_wp2_with (go_at_call 26;refine(aHe w).mono ?_;rintro e w1 ⟨rfl,hb1⟩)
 have s1:=hb1.size;have HT0:=aC (fE.start w.heap.size w1 s1);have HB0:Hid (Below w.heap.size w (w1.alloc (Obj.cells #[.int .i64 0,.int .i64 0,.bool false,.slice none 0 0,.slice none 0 0,.slice none 0 0,.slice none 0 0,.slice none 0 0,.slice none 0 0,.slice none 0 0] 71))):=hb1.alloc s1 _;obtain⟨Bb,hBb⟩:∃Bb,w1.heap.size=Bb:=⟨_,rfl⟩;obtain⟨W0,hW0⟩:∃W0,w1.alloc (Obj.cells #[.int .i64 0,.int .i64 0,.bool false,.slice none 0 0,.slice none 0 0,.slice none 0 0,.slice none 0 0,.slice none 0 0,.slice none 0 0,.slice none 0 0] 71)=W0:=⟨_,rfl⟩;rw[hBb,hW0]at HT0;rw[hW0]at HB0;rw[hBb,hW0];clear hBb hW0 hb1 s1
 go_loopw [6,8] (fun tv ii wr=>∃(k:Nat) (own:Nat->Nat) (tw:List (Option Addr×Option Addr)) (ta:Option Addr) (tc N came:Nat),k<=l.length/\ii= .int .i64 k/\tv= .slice ta tw.length tc/\Below w.heap.size w wr/\fE w.heap.size own wr (.slice ta tw.length tc) tw Bb N came k) (fun _ ii _=>l.length - (intOf ii).toNat)
 case atStart=>exact⟨0,_,[],none,0,0,0,Nat.zero_le _,rfl,rfl,HB0.out,HT0.out⟩
 case round=>
  obtain⟨k,own,tw,ta,tc,N,came,hk,rfl,rfl,hbw,htw⟩:=hrel
  rename World=>wr
  clear HT0 HB0;have HBW:=aC hbw;have HTW:=aC htw;have sw:=hbw.size;have htn:=htw.few;clear hbw htw;by_cases hlt:k < l.length
  ·obtain⟨x,hx⟩:∃x,l[k]?= some x:=⟨_,b_ hlt⟩
   obtain⟨hf,g,o,hag,hgl,ka,kc,hc,hkn⟩:=HS.out wr HBW.out k x hx;obtain⟨kk,r,W,V,i,b,c,wk,rm,md,ks,pk,pa⟩:=x;dsimp only at hc hkn;subst hag;have HF:=aC hf;have HKN:=aC hkn;have y0:=hc 0 _ rfl;rw[Nat.add_zero]at y0;have y1:=hc 1 _ rfl;have y2:=hc 2 _ rfl;have y3:=hc 3 _ rfl;have y4:=hc 4 _ rfl;have y5:=hc 5 _ rfl;have y6:=hc 6 _ rfl;have y7:=hc 7 _ rfl;have y8:=hc 8 _ rfl;have y9:=hc 9 _ rfl;have y10:=hc 10 _ rfl;have y11:=hc 11 _ rfl;have y12:=hc 12 _ rfl;have i1:(0:Int)<=(k:Int):=by omega
   have i2:(k:Int) < (l.length:Int):=by omega
   clear hc hkn hx hf
   go_upto_region 11 with fail
   obtain⟨W1,hW1⟩:∃W1,wr.alloc (Obj.cells (cW kk r W V i b c wk rm md (.slice ka ks.length kc) pk pa) 73)=W1:=⟨_,rfl⟩;have HO1:Hid (aD W1 wr.heap.size 73 (cW kk r W V i b c wk rm md (.slice ka ks.length kc) pk pa)):=by show aD _ _ _ _;rw[<-hW1];exact aD.new wr _ _
   have hb1:Below wr.heap.size wr W1:=by rw[<-hW1];exact(e_ _ _).alloc (a_ _) _
   have S1:Hid (W1.heap.size=wr.heap.size+1):=by show _=_;rw[<-hW1];simp
   rw[hW1];clear hW1 y0 y1 y2 y3 y4 y5 y6 y7 y8 y9 y10 y11 y12 i1 i2;obtain⟨own1,ht1⟩:∃own1,fE w.heap.size own1 W1 (.slice ta tw.length tc) tw Bb N came k:=⟨_,HTW.out.later hb1⟩;have HT1:=aC ht1;have HB1:Hid (Below w.heap.size w W1):=HBW.out.trans (hb1.mono sw);clear ht1;have o0:=HO1.out.cell (o:=0) rfl;have hcase:last < kk\/kk=1\/(kk<=last/\kk≠1/\tw.length=0)\/(kk=3/\kk<=last/\tw.length≠0)\/(kk=5/\kk<=last/\tw.length≠0)\/(kk=12/\kk<=last/\tw.length≠0)\/(nG kk/\kk<=last/\tw.length≠0)\/(kk<=0/\kk<=last/\tw.length≠0):=by
    have:=HLA.out;unfold nG;omega
   rcases hcase with h3|rfl|⟨h31,h32,h0⟩|⟨rfl,h31,h0⟩|⟨rfl,h31,h0⟩|⟨rfl,h31,h0⟩|⟨hch,h31,h0⟩|⟨h32,h31,h0⟩
   ·-- a kind that is passed by
    have HT9:=aC (HT1.out.next (i':=k+1) (by omega));have HB9:=HB1;have TW9:True:=trivial
    go_wp2_with (go_at_call 32;refine(mV _ Bb N came W1 HT9.out.books (by have:=HT9.out.hN;omega)).mono ?_;rintro e w10 ⟨rfl,hb10⟩)
    go_roundw
    case rel=>exact⟨k+1,_,tw,ta,tc,N,came,by omega,by go_num,by first|rfl|(simp;done)|(simp[h0];done),HB9.out.trans (hb10.mono HB9.out.size),HT9.out.later hb10⟩
    case measure=>simp[intOf];omega
   ·-- New
    have bo:=HO1.out;have o1:=bo.cell (o:=1) rfl;have o2:=bo.cell (o:=2) rfl;have o3:=bo.cell (o:=3) rfl;have o4:=bo.cell (o:=4) rfl;have o5:=bo.cell (o:=5) rfl;have o6:=bo.cell (o:=6) rfl;have o7:=bo.cell (o:=7) rfl;have o8:=bo.cell (o:=8) rfl;have o9:=bo.cell (o:=9) rfl;have o10:=bo.cell (o:=10) rfl;have o11:=bo.cell (o:=11) rfl;have o12:=bo.cell (o:=12) rfl;clear bo;have HMD:Hid (Calls prog 27 #[.agg (cW 1 r W V i b c wk rm md (.slice ka ks.length kc) pk pa)] W1 fun e w'=>∃xp wp,e= .returned (.tuple #[.agg #[.pointer xp,.pointer wp],.bool true])/\fK (fun g=>W1.heap.size<=g) w' xp wp 0/\Below W1.heap.size W1 w'):=aHv 1 r W V i b c wk rm md pk pa ka kc ks W1 (HKN.out.later hb1) HF.out.2.2.2.2.2.2.1 HF.out.2.2.2.2.2.2.2
    go_upto_region 14 with(go_at_call 27;refine HMD.out.mono ?_;rintro e w2 ⟨xp,wp,rfl,ht2,hb2⟩)
    have HP2:=aC ht2;have HB2:=aC hb2;have s2:=hb2.size;clear o0 o1 o2 o3 o4 o5 o6 o7 o8 o9 o10 o11 o12 ht2 hb2 HMD;obtain⟨W3,hW3⟩:∃W3,w2.alloc (Obj.cells #[.pointer xp,.pointer wp] 76)=W3:=⟨_,rfl⟩;have b3:aD W3 w2.heap.size 76 #[.pointer xp,.pointer wp]:=by rw[<-hW3];exact aD.new w2 _ _
    have hb23:Below w2.heap.size w2 W3:=by rw[<-hW3];exact(e_ _ _).alloc (a_ _) _
    have S3:Hid (W3.heap.size=w2.heap.size+1):=by show _=_;rw[<-hW3];simp
    rw[hW3];clear hW3;have p0:=b3.cell (o:=0) rfl;have p1:=b3.cell (o:=1) rfl;have hb34:Below W3.heap.size W3 (W3.alloc (Obj.cells #[.pointer xp,.pointer wp] 76)):=(e_ _ _).alloc (a_ _) _;have hb14:Below W1.heap.size W1 (W3.alloc (Obj.cells #[.pointer xp,.pointer wp] 76)):=(HB2.out.trans (hb23.mono s2)).trans (hb34.mono (by have:=S3.out;omega));have HR4:=aC (mK HT1.out.row hb14);have HB14:=aC hb14;have HP4:Hid (fK (fun g=>W1.heap.size<=g/\g < (W3.alloc (Obj.cells #[.pointer xp,.pointer wp] 76)).heap.size) (W3.alloc (Obj.cells #[.pointer xp,.pointer wp] 76)) xp wp 0):=HP2.out.kept (aB.of_below (hb23.trans (hb34.mono (by have:=S3.out;omega))) (X:=fun b=>w2.heap.size<=b) (fun _ _ h=>h)) (fun g hg h=>⟨by omega,h,by have:=S3.out;simp;omega⟩) (a_ _);have HBASE:Hid (w.heap.size<=(W3.alloc (Obj.cells #[.pointer xp,.pointer wp] 76)).heap.size):=Nat.le_trans HB1.out.size hb14.size;clear b3 hb23 hb34 hb14
    go_upto_region 15 with(at_builtin;refine wpList_append_lies _ rfl _ _ _ rfl w.heap.size 76 iT _ 2 16 underlying66 hiT hzT0 hzT1 hzT2 rfl (by omega) (Value.slice ta tw.length tc) tw.length (tw.flatMap jG) rfl HR4.out ⟨W3.heap.size,0,none⟩ 1 1 [.pointer xp,.pointer wp] rfl rfl (World.news_of_block (cs:=#[.pointer xp,.pointer wp]) (t:=76) (fr:=(0,0)) (heap_alloc_new W3 _)) (by simp[Value.oneCell']) (by omega) (by unfold maxLen;omega) (by omega) HBASE.out (W3.heap.size+1) (by simp) ?_;intro g5 c5 W9 hown5 hgrow5 hat5 hg5)
    have HK5:Hid (aB (fun b=>(Value.slice ta tw.length tc).ownBlock=some b) (W3.alloc (Obj.cells #[.pointer xp,.pointer wp] 76)) W9):=aB.grown hgrow5 (fun r e=>e);obtain⟨own9,ht9⟩:∃own9,fE w.heap.size own9 W9 (.slice (some ⟨g5,0,none⟩) (tw++ [(xp,wp)]).length c5) (tw++ [(xp,wp)]) Bb N came (k+1):=by
     have hlen:(tw++ [(xp,wp)]).length=tw.length+1:=by simp
     have hfl:(tw++ [(xp,wp)]).flatMap jG=tw.flatMap jG++ [.pointer xp,.pointer wp]:=by simp[jG]
     refine⟨_,HT1.out.added HB1.out.size HB14.out HP4.out HK5.out ?_ (fun g e=> ?_)⟩
     ·rw[hlen,hfl];exact hown5
     ·simp[Value.ownBlock]at e
      subst e;rcases hat5 with h|h
      ·exact .inl h
      ·exact .inr (by rw[h];simp)
    have HB9:Hid (Below w.heap.size w W9):=(HB1.out.trans (HB14.out.mono HB1.out.size)).trans (HK5.out.below (by have:=HB1.out.size;have:=HB14.out.size;omega) (fun g e=>(HT1.out.row.lt g e).1));have HT9:=aC ht9;clear p0 p1 ht9 hown5 hgrow5 hat5 hg5 HR4 HP4 HK5;have TW9:True:=trivial
    go_wp2_with (go_at_call 32;refine(mV _ Bb N came W9 HT9.out.books (by have:=HT9.out.hN;omega)).mono ?_;rintro e w10 ⟨rfl,hb10⟩)
    go_roundw
    case rel=>exact⟨k+1,_,(tw++ [(xp,wp)]),some ⟨g5,0,none⟩,c5,N,came,by omega,by go_num,by first|rfl|(simp;done)|(simp[h0];done),HB9.out.trans (hb10.mono HB9.out.size),HT9.out.later hb10⟩
    case measure=>simp[intOf];omega
   ·-- there is no run yet
    have hk1:(kk==1)=false:=by rw[g_];omega
    have hz:((tw.length:Int)==0)=true:=by rw[beq_iff_eq];omega
    have HT9:=aC (HT1.out.next (i':=k+1) (by omega));have HB9:=HB1;have TW9:True:=trivial
    go_wp2_with (go_at_call 32;refine(mV _ Bb N came W1 HT9.out.books (by have:=HT9.out.hN;omega)).mono ?_;rintro e w10 ⟨rfl,hb10⟩)
    go_roundw
    case rel=>exact⟨k+1,_,tw,ta,tc,N,came,by omega,by go_num,by first|rfl|(simp;done)|(simp[h0];done),HB9.out.trans (hb10.mono HB9.out.size),HT9.out.later hb10⟩
    case measure=>simp[intOf];omega
   ·-- Tasks
    have hn1:0 < tw.length:=by omega
    have hnz:((tw.length:Int)==0)=false:=by rw[g_];omega
    obtain⟨g6,cap6,hgf,hg61,hg62⟩:=World.ownsRow.form HT1.out.row hn1;cases hgf;have hpr:=qO r tw.length (by omega);obtain⟨m,hm⟩:∃m:Nat,iC r tw.length=(m:Int):=⟨(iC r tw.length).toNat,by omega⟩;have hmt:m < tw.length:=by omega
    obtain⟨p,hp⟩:∃p,tw[m]?= some p:=⟨_,b_ hmt⟩;obtain⟨z0,z1⟩:=rA tw m p hp;have hcell:∀j u,(tw.flatMap jG)[j]?= some u->W1.cell? ⟨g6,j,none⟩=some u:=fun j u hj=>by
     have h1:=HT1.out.row.cells (g:=g6) rfl j u hj;rw[Addr.add_lit,Nat.zero_add]at h1;exact h1
    have c0:=hcell _ _ z0;have c1:=hcell _ _ z1;obtain⟨xp,wp⟩:=p;dsimp only at c0 c1;have HTP:=aC (HT1.out.each m _ hp);have HM:=aC hp;have HPK:Hid (Calls prog 28 #[.int .i64 r,.int .i64 tw.length] W1 fun e w'=>e= .returned (.int .i64 (m:Int))/\W1=w'):=(oH r tw.length HF.out.1 (by omega) W1).mono fun e w' h=>⟨by rw[h.1,hm],h.2.symm⟩
    have m1:(0:Int)<=(m:Int):=by omega
    have m2:(m:Int) < (tw.length:Int):=by omega
    clear z0 z1 hcell hpr hm hp;have o1:=HO1.out.cell (o:=1) rfl
    go_upto_region 19 with(go_at_call 28;refine HPK.out.mono ?_;rintro e w2 ⟨rfl,rfl⟩)
    obtain⟨W2,hW2⟩:∃W2,W1.alloc (Obj.cells #[.pointer xp,.pointer wp] 76)=W2:=⟨_,rfl⟩;have HP2:Hid (aD W2 W1.heap.size 76 #[.pointer xp,.pointer wp]):=by show aD _ _ _ _;rw[<-hW2];exact aD.new W1 _ _
    have hb12:Below W1.heap.size W1 W2:=by rw[<-hW2];exact(e_ _ _).alloc (a_ _) _
    have S2:Hid (W2.heap.size=W1.heap.size+1):=by show _=_;rw[<-hW2];simp
    rw[hW2];clear hW2 c0 c1 o0 o1 HPK;have HO2:Hid (aD W2 wr.heap.size 73 (cW 3 r W V i b c wk rm md (.slice ka ks.length kc) pk pa)):=HO1.out.below hb12 (by have:=S1.out;omega);have HB2:Hid (Below w.heap.size w W2):=HB1.out.trans (hb12.mono HB1.out.size);obtain⟨own2,ht2⟩:∃own2,fE w.heap.size own2 W2 (.slice (some ⟨g6,0,none⟩) tw.length tc) tw Bb N came k:=⟨_,HT1.out.later hb12⟩;have HT2:=aC ht2;have HTM:Hid (∀U,Below W2.heap.size W2 U->Calls prog 30 #[.agg #[.pointer xp,.pointer wp],.agg (cW 3 r W V i b c wk rm md (.slice ka ks.length kc) pk pa)] U fun e w'=>∃v,e= .returned v/\∃W' V' i',v= .agg (cW 3 r W' V' i' b c wk rm md (.slice ka ks.length kc) pk pa)/\w'.cell? ⟨W1.heap.size,0,none⟩=some (.pointer xp)/\w'.cell? ⟨W1.heap.size,1,none⟩=some (.pointer wp)/\Below W2.heap.size W2 w'):=fun U hU=>by
     refine(qN (fun g=>own2 g=3+m) xp wp k 3 r W V i b c wk rm md pk pa ka ks.length kc U ((HT2.out.each m _ HM.out).kept (aB.of_below hU (X:=fun b=>W2.heap.size<=b) (fun _ _ h=>h)) (fun g hg h=>⟨by omega,h⟩) (a_ _)) HF.out.2.1 HF.out.2.2.1 HF.out.2.2.2.1 HF.out.2.2.2.2.1 HF.out.2.2.2.2.2.1).mono ?_;rintro e w' ⟨W',V',i',rfl,hb'⟩;have hUw:Below W2.heap.size W2 w':=hU.trans (hb'.mono hU.size);have hpb:=HP2.out.below hUw (by have:=S2.out;omega);exact⟨_,rfl,W',V',i',rfl,hpb.cell rfl,hpb.cell rfl,hUw⟩
    have HAS:Hid (∀U W' V' i',Below W2.heap.size W2 U->Calls prog 29 #[.agg #[.pointer xp,.pointer wp],.pointer (some ⟨Bb,0,none⟩),.agg (cW 3 r W' V' i' b c wk rm md (.slice ka ks.length kc) pk pa)] U fun e w'=>∃v,e= .returned v/\v= .bool true/\(∃own9 N9 came9,fE w.heap.size own9 w' (.slice (some ⟨g6,0,none⟩) tw.length tc) tw Bb N9 came9 (k+1))/\Below w.heap.size w w'):=fun U W' V' i' hU=>by
     have hTU:=HT2.out.later hU;refine(aIg _ _ xp wp k Bb N came (by have:=HT2.out.hN;omega) (by have:=HT2.out.hcm;omega) r W' V' i' b c wk rm md pk pa ka ks.length kc U (hTU.each m _ HM.out) hTU.books).mono ?_;rintro e w' ⟨rfl,⟨N',hN',hbk⟩,hk'⟩;have hwU:Below w.heap.size w U:=HB2.out.trans (hU.mono HB2.out.size);exact⟨_,rfl,rfl,⟨_,N',came+1,hTU.asked hwU.size hk' hN' hbk⟩,hwU.trans (hk'.below hwU.size (fun g h=>hTU.new g (by omega)))⟩
    have bo:=HO2.out;have o0:=bo.cell (o:=0) rfl;have o1:=bo.cell (o:=1) rfl;have o2:=bo.cell (o:=2) rfl;have o3:=bo.cell (o:=3) rfl;have o4:=bo.cell (o:=4) rfl;have o5:=bo.cell (o:=5) rfl;have o6:=bo.cell (o:=6) rfl;have o7:=bo.cell (o:=7) rfl;have o8:=bo.cell (o:=8) rfl;have o9:=bo.cell (o:=9) rfl;have o10:=bo.cell (o:=10) rfl;have o11:=bo.cell (o:=11) rfl;have o12:=bo.cell (o:=12) rfl;have bp:=HP2.out;have p0:=bp.cell (o:=0) rfl;have p1:=bp.cell (o:=1) rfl;clear bo bp ht2 hb12
    go_region_law (first
     |(refine dY (by rfl) 30 _ _ _ (by rfl) (.agg #[.pointer xp,.pointer wp]) (.agg (cW 3 r W V i b c wk rm md (.slice ka ks.length kc) pk pa)) (by rfl) (by rfl) (enters_of func30 (by kernel_rfl) rfl) (HTM.out _ (by first|exact e_ _ _|exact(e_ _ _).drew)) ?_;rintro v8 w8 ⟨W',V',i',rfl,q0,q1,hb8⟩)
     |(refine oZ (by rfl) 29 _ _ _ _ (by rfl) (.agg #[.pointer xp,.pointer wp]) (.pointer (some ⟨Bb,0,none⟩)) (.agg (cW 3 r W' V' i' b c wk rm md (.slice ka ks.length kc) pk pa)) (by rfl) (by rfl) (by rfl) (enters_of func29 (by kernel_rfl) rfl) (HAS.out _ W' V' i' (by first|assumption|exact Below.drew (by assumption))) ?_;rintro v9 w9 ⟨rfl,hx9,hb9⟩))
    all_goals
     obtain⟨own9,N9,came9,ht9⟩:=hx9;have HT9:=aC ht9;have HB9:=aC hb9;clear ht9 hb9 o0 o1 o2 o3 o4 o5 o6 o7 o8 o9 o10 o11 o12 p0 p1 HTM HAS;have TW9:True:=trivial
     go_wp2_with (go_at_call 32;refine(mV _ Bb N9 came9 w9 HT9.out.books (by have:=HT9.out.hN;omega)).mono ?_;rintro e w10 ⟨rfl,hb10⟩)
     go_roundw
     case rel=>exact⟨k+1,_,tw,some ⟨g6,0,none⟩,tc,N9,came9,by omega,by go_num,by first|rfl|(simp;done)|(simp[h0];done),HB9.out.trans (hb10.mono HB9.out.size),HT9.out.later hb10⟩
     case measure=>simp[intOf];omega
   ·-- Messages
    have hn1:0 < tw.length:=by omega
    have hnz:((tw.length:Int)==0)=false:=by rw[g_];omega
    obtain⟨g6,cap6,hgf,hg61,hg62⟩:=World.ownsRow.form HT1.out.row hn1;cases hgf;have hpr:=qO r tw.length (by omega);obtain⟨m,hm⟩:∃m:Nat,iC r tw.length=(m:Int):=⟨(iC r tw.length).toNat,by omega⟩;have hmt:m < tw.length:=by omega
    obtain⟨p,hp⟩:∃p,tw[m]?= some p:=⟨_,b_ hmt⟩;obtain⟨z0,z1⟩:=rA tw m p hp;have hcell:∀j u,(tw.flatMap jG)[j]?= some u->W1.cell? ⟨g6,j,none⟩=some u:=fun j u hj=>by
     have h1:=HT1.out.row.cells (g:=g6) rfl j u hj;rw[Addr.add_lit,Nat.zero_add]at h1;exact h1
    have c0:=hcell _ _ z0;have c1:=hcell _ _ z1;obtain⟨xp,wp⟩:=p;dsimp only at c0 c1;have HTP:=aC (HT1.out.each m _ hp);have HM:=aC hp;have HPK:Hid (Calls prog 28 #[.int .i64 r,.int .i64 tw.length] W1 fun e w'=>e= .returned (.int .i64 (m:Int))/\W1=w'):=(oH r tw.length HF.out.1 (by omega) W1).mono fun e w' h=>⟨by rw[h.1,hm],h.2.symm⟩
    have m1:(0:Int)<=(m:Int):=by omega
    have m2:(m:Int) < (tw.length:Int):=by omega
    clear z0 z1 hcell hpr hm hp;have o1:=HO1.out.cell (o:=1) rfl
    go_upto_region 19 with(go_at_call 28;refine HPK.out.mono ?_;rintro e w2 ⟨rfl,rfl⟩)
    obtain⟨W2,hW2⟩:∃W2,W1.alloc (Obj.cells #[.pointer xp,.pointer wp] 76)=W2:=⟨_,rfl⟩;have HP2:Hid (aD W2 W1.heap.size 76 #[.pointer xp,.pointer wp]):=by show aD _ _ _ _;rw[<-hW2];exact aD.new W1 _ _
    have hb12:Below W1.heap.size W1 W2:=by rw[<-hW2];exact(e_ _ _).alloc (a_ _) _
    have S2:Hid (W2.heap.size=W1.heap.size+1):=by show _=_;rw[<-hW2];simp
    rw[hW2];clear hW2 c0 c1 o0 o1 HPK;have HO2:Hid (aD W2 wr.heap.size 73 (cW 5 r W V i b c wk rm md (.slice ka ks.length kc) pk pa)):=HO1.out.below hb12 (by have:=S1.out;omega);have HB2:Hid (Below w.heap.size w W2):=HB1.out.trans (hb12.mono HB1.out.size);obtain⟨own2,ht2⟩:∃own2,fE w.heap.size own2 W2 (.slice (some ⟨g6,0,none⟩) tw.length tc) tw Bb N came k:=⟨_,HT1.out.later hb12⟩;have HT2:=aC ht2;have HTM:Hid (∀U,Below W2.heap.size W2 U->Calls prog 30 #[.agg #[.pointer xp,.pointer wp],.agg (cW 5 r W V i b c wk rm md (.slice ka ks.length kc) pk pa)] U fun e w'=>∃v,e= .returned v/\∃W' V' i',v= .agg (cW 5 r W' V' i' b c wk rm md (.slice ka ks.length kc) pk pa)/\w'.cell? ⟨W1.heap.size,0,none⟩=some (.pointer xp)/\w'.cell? ⟨W1.heap.size,1,none⟩=some (.pointer wp)/\Below W2.heap.size W2 w'):=fun U hU=>by
     refine(qN (fun g=>own2 g=3+m) xp wp k 5 r W V i b c wk rm md pk pa ka ks.length kc U ((HT2.out.each m _ HM.out).kept (aB.of_below hU (X:=fun b=>W2.heap.size<=b) (fun _ _ h=>h)) (fun g hg h=>⟨by omega,h⟩) (a_ _)) HF.out.2.1 HF.out.2.2.1 HF.out.2.2.2.1 HF.out.2.2.2.2.1 HF.out.2.2.2.2.2.1).mono ?_;rintro e w' ⟨W',V',i',rfl,hb'⟩;have hUw:Below W2.heap.size W2 w':=hU.trans (hb'.mono hU.size);have hpb:=HP2.out.below hUw (by have:=S2.out;omega);exact⟨_,rfl,W',V',i',rfl,hpb.cell rfl,hpb.cell rfl,hUw⟩
    have HAS:Hid (∀U W' V' i',Below W2.heap.size W2 U->Calls prog 29 #[.agg #[.pointer xp,.pointer wp],.pointer (some ⟨Bb,0,none⟩),.agg (cW 5 r W' V' i' b c wk rm md (.slice ka ks.length kc) pk pa)] U fun e w'=>∃v,e= .returned v/\v= .bool true/\(∃own9 N9 came9,fE w.heap.size own9 w' (.slice (some ⟨g6,0,none⟩) tw.length tc) tw Bb N9 came9 (k+1))/\Below w.heap.size w w'):=fun U W' V' i' hU=>by
     have hTU:=HT2.out.later hU;refine(aFy _ _ xp wp k Bb N came (by have:=HT2.out.hN;omega) (by have:=HT2.out.hcm;omega) r W' V' i' b c wk rm md pk pa ka ks.length kc U (hTU.each m _ HM.out) hTU.books).mono ?_;rintro e w' ⟨rfl,⟨N',hN',hbk⟩,hk'⟩;have hwU:Below w.heap.size w U:=HB2.out.trans (hU.mono HB2.out.size);exact⟨_,rfl,rfl,⟨_,N',came+1,hTU.asked hwU.size hk' hN' hbk⟩,hwU.trans (hk'.below hwU.size (fun g h=>hTU.new g (by omega)))⟩
    have bo:=HO2.out;have o0:=bo.cell (o:=0) rfl;have o1:=bo.cell (o:=1) rfl;have o2:=bo.cell (o:=2) rfl;have o3:=bo.cell (o:=3) rfl;have o4:=bo.cell (o:=4) rfl;have o5:=bo.cell (o:=5) rfl;have o6:=bo.cell (o:=6) rfl;have o7:=bo.cell (o:=7) rfl;have o8:=bo.cell (o:=8) rfl;have o9:=bo.cell (o:=9) rfl;have o10:=bo.cell (o:=10) rfl;have o11:=bo.cell (o:=11) rfl;have o12:=bo.cell (o:=12) rfl;have bp:=HP2.out;have p0:=bp.cell (o:=0) rfl;have p1:=bp.cell (o:=1) rfl;clear bo bp ht2 hb12
    go_region_law (first
     |(refine dY (by rfl) 30 _ _ _ (by rfl) (.agg #[.pointer xp,.pointer wp]) (.agg (cW 5 r W V i b c wk rm md (.slice ka ks.length kc) pk pa)) (by rfl) (by rfl) (enters_of func30 (by kernel_rfl) rfl) (HTM.out _ (by first|exact e_ _ _|exact(e_ _ _).drew)) ?_;rintro v8 w8 ⟨W',V',i',rfl,q0,q1,hb8⟩)
     |(refine oZ (by rfl) 29 _ _ _ _ (by rfl) (.agg #[.pointer xp,.pointer wp]) (.pointer (some ⟨Bb,0,none⟩)) (.agg (cW 5 r W' V' i' b c wk rm md (.slice ka ks.length kc) pk pa)) (by rfl) (by rfl) (by rfl) (enters_of func29 (by kernel_rfl) rfl) (HAS.out _ W' V' i' (by first|assumption|exact Below.drew (by assumption))) ?_;rintro v9 w9 ⟨rfl,hx9,hb9⟩))
    all_goals
     obtain⟨own9,N9,came9,ht9⟩:=hx9;have HT9:=aC ht9;have HB9:=aC hb9;clear ht9 hb9 o0 o1 o2 o3 o4 o5 o6 o7 o8 o9 o10 o11 o12 p0 p1 HTM HAS;have TW9:True:=trivial
     go_wp2_with (go_at_call 32;refine(mV _ Bb N9 came9 w9 HT9.out.books (by have:=HT9.out.hN;omega)).mono ?_;rintro e w10 ⟨rfl,hb10⟩)
     go_roundw
     case rel=>exact⟨k+1,_,tw,some ⟨g6,0,none⟩,tc,N9,came9,by omega,by go_num,by first|rfl|(simp;done)|(simp[h0];done),HB9.out.trans (hb10.mono HB9.out.size),HT9.out.later hb10⟩
     case measure=>simp[intOf];omega
   ·-- Announced
    have hn1:0 < tw.length:=by omega
    have hnz:((tw.length:Int)==0)=false:=by rw[g_];omega
    obtain⟨g6,cap6,hgf,hg61,hg62⟩:=World.ownsRow.form HT1.out.row hn1;cases hgf;have hpr:=qO r tw.length (by omega);obtain⟨m,hm⟩:∃m:Nat,iC r tw.length=(m:Int):=⟨(iC r tw.length).toNat,by omega⟩;have hmt:m < tw.length:=by omega
    obtain⟨p,hp⟩:∃p,tw[m]?= some p:=⟨_,b_ hmt⟩;obtain⟨z0,z1⟩:=rA tw m p hp;have hcell:∀j u,(tw.flatMap jG)[j]?= some u->W1.cell? ⟨g6,j,none⟩=some u:=fun j u hj=>by
     have h1:=HT1.out.row.cells (g:=g6) rfl j u hj;rw[Addr.add_lit,Nat.zero_add]at h1;exact h1
    have c0:=hcell _ _ z0;have c1:=hcell _ _ z1;obtain⟨xp,wp⟩:=p;dsimp only at c0 c1;have HTP:=aC (HT1.out.each m _ hp);have HM:=aC hp;have HPK:Hid (Calls prog 28 #[.int .i64 r,.int .i64 tw.length] W1 fun e w'=>e= .returned (.int .i64 (m:Int))/\W1=w'):=(oH r tw.length HF.out.1 (by omega) W1).mono fun e w' h=>⟨by rw[h.1,hm],h.2.symm⟩
    have m1:(0:Int)<=(m:Int):=by omega
    have m2:(m:Int) < (tw.length:Int):=by omega
    clear z0 z1 hcell hpr hm hp;have o1:=HO1.out.cell (o:=1) rfl
    go_upto_region 19 with(go_at_call 28;refine HPK.out.mono ?_;rintro e w2 ⟨rfl,rfl⟩)
    obtain⟨W2,hW2⟩:∃W2,W1.alloc (Obj.cells #[.pointer xp,.pointer wp] 76)=W2:=⟨_,rfl⟩;have HP2:Hid (aD W2 W1.heap.size 76 #[.pointer xp,.pointer wp]):=by show aD _ _ _ _;rw[<-hW2];exact aD.new W1 _ _
    have hb12:Below W1.heap.size W1 W2:=by rw[<-hW2];exact(e_ _ _).alloc (a_ _) _
    have S2:Hid (W2.heap.size=W1.heap.size+1):=by show _=_;rw[<-hW2];simp
    rw[hW2];clear hW2 c0 c1 o0 o1 HPK;have HO2:Hid (aD W2 wr.heap.size 73 (cW 12 r W V i b c wk rm md (.slice ka ks.length kc) pk pa)):=HO1.out.below hb12 (by have:=S1.out;omega);have HB2:Hid (Below w.heap.size w W2):=HB1.out.trans (hb12.mono HB1.out.size);obtain⟨own2,ht2⟩:∃own2,fE w.heap.size own2 W2 (.slice (some ⟨g6,0,none⟩) tw.length tc) tw Bb N came k:=⟨_,HT1.out.later hb12⟩;have HT2:=aC ht2;have HTM:Hid (∀U,Below W2.heap.size W2 U->Calls prog 30 #[.agg #[.pointer xp,.pointer wp],.agg (cW 12 r W V i b c wk rm md (.slice ka ks.length kc) pk pa)] U fun e w'=>∃v,e= .returned v/\∃W' V' i',v= .agg (cW 12 r W' V' i' b c wk rm md (.slice ka ks.length kc) pk pa)/\w'.cell? ⟨W1.heap.size,0,none⟩=some (.pointer xp)/\w'.cell? ⟨W1.heap.size,1,none⟩=some (.pointer wp)/\Below W2.heap.size W2 w'):=fun U hU=>by
     refine(qN (fun g=>own2 g=3+m) xp wp k 12 r W V i b c wk rm md pk pa ka ks.length kc U ((HT2.out.each m _ HM.out).kept (aB.of_below hU (X:=fun b=>W2.heap.size<=b) (fun _ _ h=>h)) (fun g hg h=>⟨by omega,h⟩) (a_ _)) HF.out.2.1 HF.out.2.2.1 HF.out.2.2.2.1 HF.out.2.2.2.2.1 HF.out.2.2.2.2.2.1).mono ?_;rintro e w' ⟨W',V',i',rfl,hb'⟩;have hUw:Below W2.heap.size W2 w':=hU.trans (hb'.mono hU.size);have hpb:=HP2.out.below hUw (by have:=S2.out;omega);exact⟨_,rfl,W',V',i',rfl,hpb.cell rfl,hpb.cell rfl,hUw⟩
    have HAS:Hid (∀U W' V' i',Below W2.heap.size W2 U->Calls prog 29 #[.agg #[.pointer xp,.pointer wp],.pointer (some ⟨Bb,0,none⟩),.agg (cW 12 r W' V' i' b c wk rm md (.slice ka ks.length kc) pk pa)] U fun e w'=>∃v,e= .returned v/\v= .bool true/\(∃own9 N9 came9,fE w.heap.size own9 w' (.slice (some ⟨g6,0,none⟩) tw.length tc) tw Bb N9 came9 (k+1))/\Below w.heap.size w w'):=fun U W' V' i' hU=>by
     have hTU:=HT2.out.later hU;refine(aGg _ _ xp wp k Bb N came (by omega) (by have:=HT2.out.hN;omega) (by have:=HT2.out.hcm;omega) r W' V' i' b c wk rm md pk pa ka ks.length kc U (hTU.each m _ HM.out) hTU.books).mono ?_;rintro e w' ⟨rfl,⟨N',hN',hbk⟩,hk'⟩;have hwU:Below w.heap.size w U:=HB2.out.trans (hU.mono HB2.out.size);exact⟨_,rfl,rfl,⟨_,N',came+1,hTU.asked hwU.size hk' hN' hbk⟩,hwU.trans (hk'.below hwU.size (fun g h=>hTU.new g (by omega)))⟩
    have bo:=HO2.out;have o0:=bo.cell (o:=0) rfl;have o1:=bo.cell (o:=1) rfl;have o2:=bo.cell (o:=2) rfl;have o3:=bo.cell (o:=3) rfl;have o4:=bo.cell (o:=4) rfl;have o5:=bo.cell (o:=5) rfl;have o6:=bo.cell (o:=6) rfl;have o7:=bo.cell (o:=7) rfl;have o8:=bo.cell (o:=8) rfl;have o9:=bo.cell (o:=9) rfl;have o10:=bo.cell (o:=10) rfl;have o11:=bo.cell (o:=11) rfl;have o12:=bo.cell (o:=12) rfl;have bp:=HP2.out;have p0:=bp.cell (o:=0) rfl;have p1:=bp.cell (o:=1) rfl;clear bo bp ht2 hb12
    go_region_law (first
     |(refine dY (by rfl) 30 _ _ _ (by rfl) (.agg #[.pointer xp,.pointer wp]) (.agg (cW 12 r W V i b c wk rm md (.slice ka ks.length kc) pk pa)) (by rfl) (by rfl) (enters_of func30 (by kernel_rfl) rfl) (HTM.out _ (by first|exact e_ _ _|exact(e_ _ _).drew)) ?_;rintro v8 w8 ⟨W',V',i',rfl,q0,q1,hb8⟩)
     |(refine oZ (by rfl) 29 _ _ _ _ (by rfl) (.agg #[.pointer xp,.pointer wp]) (.pointer (some ⟨Bb,0,none⟩)) (.agg (cW 12 r W' V' i' b c wk rm md (.slice ka ks.length kc) pk pa)) (by rfl) (by rfl) (by rfl) (enters_of func29 (by kernel_rfl) rfl) (HAS.out _ W' V' i' (by first|assumption|exact Below.drew (by assumption))) ?_;rintro v9 w9 ⟨rfl,hx9,hb9⟩))
    all_goals
     obtain⟨own9,N9,came9,ht9⟩:=hx9;have HT9:=aC ht9;have HB9:=aC hb9;clear ht9 hb9 o0 o1 o2 o3 o4 o5 o6 o7 o8 o9 o10 o11 o12 p0 p1 HTM HAS;have TW9:True:=trivial
     go_wp2_with (go_at_call 32;refine(mV _ Bb N9 came9 w9 HT9.out.books (by have:=HT9.out.hN;omega)).mono ?_;rintro e w10 ⟨rfl,hb10⟩)
     go_roundw
     case rel=>exact⟨k+1,_,tw,some ⟨g6,0,none⟩,tc,N9,came9,by omega,by go_num,by first|rfl|(simp;done)|(simp[h0];done),HB9.out.trans (hb10.mono HB9.out.size),HT9.out.later hb10⟩
     case measure=>simp[intOf];omega
   ·-- a kind that changes something
    have HCH:=aC hch;have hk1:(kk==1)=false:=by rw[g_];unfold nG at hch;omega
    have hk3:(kk==3)=false:=by rw[g_];unfold nG at hch;omega
    have hk5:(kk==5)=false:=by rw[g_];unfold nG at hch;omega
    have hk12:(kk==12)=false:=by rw[g_];unfold nG at hch;omega
    have hk2:2<=kk:=by unfold nG at hch;omega
    clear hch;have hn1:0 < tw.length:=by omega
    have hnz:((tw.length:Int)==0)=false:=by rw[g_];omega
    obtain⟨g6,cap6,hgf,hg61,hg62⟩:=World.ownsRow.form HT1.out.row hn1;cases hgf;have hpr:=qO r tw.length (by omega);obtain⟨m,hm⟩:∃m:Nat,iC r tw.length=(m:Int):=⟨(iC r tw.length).toNat,by omega⟩;have hmt:m < tw.length:=by omega
    obtain⟨p,hp⟩:∃p,tw[m]?= some p:=⟨_,b_ hmt⟩;obtain⟨z0,z1⟩:=rA tw m p hp;have hcell:∀j u,(tw.flatMap jG)[j]?= some u->W1.cell? ⟨g6,j,none⟩=some u:=fun j u hj=>by
     have h1:=HT1.out.row.cells (g:=g6) rfl j u hj;rw[Addr.add_lit,Nat.zero_add]at h1;exact h1
    have c0:=hcell _ _ z0;have c1:=hcell _ _ z1;obtain⟨xp,wp⟩:=p;dsimp only at c0 c1;have HTP:=aC (HT1.out.each m _ hp);have HM:=aC hp;have HPK:Hid (Calls prog 28 #[.int .i64 r,.int .i64 tw.length] W1 fun e w'=>e= .returned (.int .i64 (m:Int))/\W1=w'):=(oH r tw.length HF.out.1 (by omega) W1).mono fun e w' h=>⟨by rw[h.1,hm],h.2.symm⟩
    have m1:(0:Int)<=(m:Int):=by omega
    have m2:(m:Int) < (tw.length:Int):=by omega
    clear z0 z1 hcell hpr hm hp;have o1:=HO1.out.cell (o:=1) rfl
    go_upto_region 22 with(go_at_call 28;refine HPK.out.mono ?_;rintro e w2 ⟨rfl,rfl⟩)
    obtain⟨W2,hW2⟩:∃W2,W1.alloc (Obj.cells #[.pointer xp,.pointer wp] 76)=W2:=⟨_,rfl⟩;have HP2:Hid (aD W2 W1.heap.size 76 #[.pointer xp,.pointer wp]):=by show aD _ _ _ _;rw[<-hW2];exact aD.new W1 _ _
    have hb12:Below W1.heap.size W1 W2:=by rw[<-hW2];exact(e_ _ _).alloc (a_ _) _
    have S2:Hid (W2.heap.size=W1.heap.size+1):=by show _=_;rw[<-hW2];simp
    rw[hW2];clear hW2 c0 c1 o0 o1 HPK;have HO2:Hid (aD W2 wr.heap.size 73 (cW kk r W V i b c wk rm md (.slice ka ks.length kc) pk pa)):=HO1.out.below hb12 (by have:=S1.out;omega);have HB2:Hid (Below w.heap.size w W2):=HB1.out.trans (hb12.mono HB1.out.size);obtain⟨own2,ht2⟩:∃own2,fE w.heap.size own2 W2 (.slice (some ⟨g6,0,none⟩) tw.length tc) tw Bb N came k:=⟨_,HT1.out.later hb12⟩;have HT2:=aC ht2;have HTM:Hid (∀U,Below W2.heap.size W2 U->Calls prog 30 #[.agg #[.pointer xp,.pointer wp],.agg (cW kk r W V i b c wk rm md (.slice ka ks.length kc) pk pa)] U fun e w'=>∃v,e= .returned v/\∃W' V' i',v= .agg (cW kk r W' V' i' b c wk rm md (.slice ka ks.length kc) pk pa)/\w'.cell? ⟨W1.heap.size,0,none⟩=some (.pointer xp)/\w'.cell? ⟨W1.heap.size,1,none⟩=some (.pointer wp)/\Below W2.heap.size W2 w'):=fun U hU=>by
     refine(qN (fun g=>own2 g=3+m) xp wp k kk r W V i b c wk rm md pk pa ka ks.length kc U ((HT2.out.each m _ HM.out).kept (aB.of_below hU (X:=fun b=>W2.heap.size<=b) (fun _ _ h=>h)) (fun g hg h=>⟨by omega,h⟩) (a_ _)) HF.out.2.1 HF.out.2.2.1 HF.out.2.2.2.1 HF.out.2.2.2.2.1 HF.out.2.2.2.2.2.1).mono ?_;rintro e w' ⟨W',V',i',rfl,hb'⟩;have hUw:Below W2.heap.size W2 w':=hU.trans (hb'.mono hU.size);have hpb:=HP2.out.below hUw (by have:=S2.out;omega);exact⟨_,rfl,W',V',i',rfl,hpb.cell rfl,hpb.cell rfl,hUw⟩
    have HAS:Hid (∀U W' V' i',Below W2.heap.size W2 U->Calls prog 31 #[.agg #[.pointer xp,.pointer wp],.agg (cW kk r W' V' i' b c wk rm md (.slice ka ks.length kc) pk pa)] U fun e w'=>∃v,e= .returned v/\v= .bool true/\(∃own9 N9 came9,fE w.heap.size own9 w' (.slice (some ⟨g6,0,none⟩) tw.length tc) tw Bb N9 came9 (k+1))/\Below w.heap.size w w'):=fun U W' V' i' hU=>by
     have hTU:=HT2.out.later hU;refine(aCx kk HCH.out _ xp wp k (by omega) r W' V' i' b c wk rm md pk pa ka ks.length kc U (hTU.each m _ HM.out)).mono ?_;rintro e w' ⟨rfl,htw',hk'⟩;have hwU:Below w.heap.size w U:=HB2.out.trans (hU.mono HB2.out.size);exact⟨_,rfl,rfl,⟨_,N,came,hTU.changed hwU.size HM.out hk' htw'⟩,hwU.trans (hk'.below hwU.size (fun g h=>hTU.new g (by omega)))⟩
    have bo:=HO2.out;have o0:=bo.cell (o:=0) rfl;have o1:=bo.cell (o:=1) rfl;have o2:=bo.cell (o:=2) rfl;have o3:=bo.cell (o:=3) rfl;have o4:=bo.cell (o:=4) rfl;have o5:=bo.cell (o:=5) rfl;have o6:=bo.cell (o:=6) rfl;have o7:=bo.cell (o:=7) rfl;have o8:=bo.cell (o:=8) rfl;have o9:=bo.cell (o:=9) rfl;have o10:=bo.cell (o:=10) rfl;have o11:=bo.cell (o:=11) rfl;have o12:=bo.cell (o:=12) rfl;have bp:=HP2.out;have p0:=bp.cell (o:=0) rfl;have p1:=bp.cell (o:=1) rfl;clear bo bp ht2 hb12
    go_region_law (first
     |(refine dY (by rfl) 30 _ _ _ (by rfl) (.agg #[.pointer xp,.pointer wp]) (.agg (cW kk r W V i b c wk rm md (.slice ka ks.length kc) pk pa)) (by rfl) (by rfl) (enters_of func30 (by kernel_rfl) rfl) (HTM.out _ (by first|exact e_ _ _|exact(e_ _ _).drew)) ?_;rintro v8 w8 ⟨W',V',i',rfl,q0,q1,hb8⟩)
     |(refine dY (by rfl) 31 _ _ _ (by rfl) (.agg #[.pointer xp,.pointer wp]) (.agg (cW kk r W' V' i' b c wk rm md (.slice ka ks.length kc) pk pa)) (by rfl) (by rfl) (enters_of func31 (by kernel_rfl) rfl) (HAS.out _ W' V' i' (by first|assumption|exact Below.drew (by assumption))) ?_;rintro v9 w9 ⟨rfl,hx9,hb9⟩))
    all_goals
     obtain⟨own9,N9,came9,ht9⟩:=hx9;have HT9:=aC ht9;have HB9:=aC hb9;clear ht9 hb9 o0 o1 o2 o3 o4 o5 o6 o7 o8 o9 o10 o11 o12 p0 p1 HTM HAS;have TW9:True:=trivial
     go_wp2_with (go_at_call 32;refine(mV _ Bb N9 came9 w9 HT9.out.books (by have:=HT9.out.hN;omega)).mono ?_;rintro e w10 ⟨rfl,hb10⟩)
     go_roundw
     case rel=>exact⟨k+1,_,tw,some ⟨g6,0,none⟩,tc,N9,came9,by omega,by go_num,by first|rfl|(simp;done)|(simp[h0];done),HB9.out.trans (hb10.mono HB9.out.size),HT9.out.later hb10⟩
     case measure=>simp[intOf];omega
   ·-- no kind
    have hk1:(kk==1)=false:=by rw[g_];omega
    have hk3:(kk==3)=false:=by rw[g_];omega
    have hk5:(kk==5)=false:=by rw[g_];omega
    have hk12:(kk==12)=false:=by rw[g_];omega
    have hz:((tw.length:Int)==0)=false:=by rw[g_];omega
    have HT9:=aC (HT1.out.next (i':=k+1) (by omega));have HB9:=HB1;have TW9:True:=trivial
    go_wp2_with (go_at_call 32;refine(mV _ Bb N came W1 HT9.out.books (by have:=HT9.out.hN;omega)).mono ?_;rintro e w10 ⟨rfl,hb10⟩)
    go_roundw
    case rel=>exact⟨k+1,_,tw,ta,tc,N,came,by omega,by go_num,by first|rfl|(simp;done)|(simp[h0];done),HB9.out.trans (hb10.mono HB9.out.size),HT9.out.later hb10⟩
    case measure=>simp[intOf];omega
  ·go_wp2_with fail
   go_ret;exact⟨rfl,HBW.out⟩
end Go.Proofs.YtfanaanofjhlkaaGreatDoor
