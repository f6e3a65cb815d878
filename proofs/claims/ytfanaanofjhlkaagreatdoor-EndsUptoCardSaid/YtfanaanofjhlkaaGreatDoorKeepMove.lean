import Derived.Test.YtfanaanofjhlkaaGreatDoorKeepTold
import Derived.Test.YtfanaanofjhlkaaGreatDoorPickN
import Derived.Test.YtfanaanofjhlkaaGreatDoorTamed
import Derived.Deep.RegionLaw
namespace Go.Proofs.YtfanaanofjhlkaaGreatDoor
open Go Go.RowKit
def MoveGives(F:Nat->Prop)(w:World)(B:Nat)(r:RunS×Int)(e:Ending)(w':World):Prop:=∃v,e= .returned v/\(v= .int .i64 r.2/\XOK (fun b=>F b\/w.heap.size<=b) w' B r.1/\Kept F w w')
theorem gives_later{F:Nat->Prop}{w U:World}{B:Nat}{r:RunS×Int}(hU:Below w.heap.size w U){f:Nat}{args:Array Value}(h:Calls Tryz.prog f args U (XGives F U B r)):Calls Tryz.prog f args U (MoveGives F w B r):=by
 refine h.mono ?_
 rintro e w' ⟨rfl,hx,hk⟩
 refine⟨_,rfl,rfl,hx.mono (fun b _ hb=> ?_),(Kept.of_below hU (fun b h1 h2=>absurd h1 (by omega))).trans hk⟩
 rcases hb with hb|hb
 ·exact .inl hb
 ·exact .inr (by have:=hU.size;omega)
def moveV(m:MoveS):Array Value:=#[.int .i64 m.k,.int .i64 m.w,.int .i64 m.v,.int .i64 m.i]
def MoveFits(m:MoveS):Prop:=isI64 m.k/\isI64 m.w/\isI64 m.v/\isI64 m.i
set_option maxHeartbeats 8000000 in
set_option maxRecDepth 100000 in
theorem kmove_work(H:RunCalls){base:Nat}{own:Nat->Nat}{G B N:Nat}{s:RunS}{ka:Option Addr}{kc:Nat}{av dv:Value}{did:List ByteArray}{over done:Bool}(m:MoveS){w:World}(hm:MoveFits m)(h:GameAt base own w G B s ka kc av dv did over done)(hW:Whole N s)(hN:N+6<=80000000)(hc:pickS m.k 12 < 3) :
  Calls Tryz.prog 25 #[.pointer (some ⟨G,0,none⟩),.agg (moveV m)] w (MoveGives (fun b=>own b=2/\b < w.heap.size) w B (moveS s m)):=by
 obtain⟨mk,mw,mv,mi⟩:=m
 obtain⟨hm1,hm2,hm3,hm4⟩:=hm
 dsimp only at hm1 hm2 hm3 hm4
 obtain⟨V,hV⟩:∃V,w.alloc (Obj.cells (moveV ⟨mk,mw,mv,mi⟩) 33)=V:=⟨_,rfl⟩
 have hbV:Below w.heap.size w V:=by rw[<-hV];exact(Below.refl _ _).alloc (Nat.le_refl _) _
 have bM:BoxAt V w.heap.size 33 (moveV ⟨mk,mw,mv,mi⟩):=by rw[<-hV];exact BoxAt.new w _ _
 have sV:V.heap.size=w.heap.size+1:=by rw[<-hV];simp
 have hGl:=h.box.lt
 have h2:=hW.fine.two
 have h5:=hW.fine.five
 have h60:=hW.fine.w60
 have bG:=h.box.below hbV hGl
 have hrun:XOK (fun b=>own b=2/\b < w.heap.size) w B s:=h.run.mono (fun b hb h=>⟨h,hb⟩)
 have HMS:=hid_of (H.messages _ B N s V (hrun.later hbV) hW)
 obtain⟨n,hn⟩:∃n,s.workers=n:=⟨_,rfl⟩
 obtain⟨W,hWv⟩:∃W,pickS mw n=W:=⟨_,rfl⟩
 obtain⟨K,hK⟩:∃K,pickS mk 12=K:=⟨_,rfl⟩
 have rW:=pickS_range mw n (by omega)
 have rK:=pickS_range mk 12 (by omega)
 rw[hWv]at rW
 rw[hK]at rK
 dsimp only at hc
 rw[hK]at hc
 have HP1:Hid (∀U,Calls Tryz.prog 34 #[.int .i64 mw,.int .i64 n] U fun e w'=>e= .returned (.int .i64 W)/\U=w'):=fun U=>(pick_calls mw n hm2 (by omega) (by omega) U).mono fun e w' q=>⟨by rw[q.1,hWv],q.2.symm⟩
 have HPK:Hid (∀U,Calls Tryz.prog 34 #[.int .i64 mk,.int .i64 12] U fun e w'=>e= .returned (.int .i64 K)/\U=w'):=fun U=>(pick_calls mk 12 hm1 (by omega) (by omega) U).mono fun e w' q=>⟨by rw[q.1,hK],q.2.symm⟩
 have HBG:=hid_of bG
 have HBM:=hid_of bM
 have HBV:=hid_of hbV
 have hway:(s.way.length=0/\placeS s mi=0)\/(0 < s.way.length/\placeS s mi=pickS mi s.way.length):=by
  unfold placeS
  cases hy:s.way with
  |nil=>exact .inl ⟨rfl,rfl⟩
  |cons a l=>exact .inr ⟨by simp,by simp⟩
 obtain⟨len,hlen⟩:∃len,s.way.length=len:=⟨_,rfl⟩
 obtain⟨I,hI⟩:∃I,placeS s mi=I:=⟨_,rfl⟩
 rw[hlen]at HMS h60
 rw[hlen,hI]at hway
 have hmv:moveS s ⟨mk,mw,mv,mi⟩=workS s W:=by
  unfold moveS
  dsimp only
  rw[hn,hK]
  rw[if_pos hc,hWv]
 have HX:Hid (∀U,Below w.heap.size w U->Calls Tryz.prog 22 #[.pointer (some ⟨B,0,none⟩),.int .i64 W] U (MoveGives (fun b=>own b=2/\b < w.heap.size) w B (moveS s ⟨mk,mw,mv,mi⟩))):=fun U hU=>by
  rw[hmv]
  exact gives_later hU (H.work _ B N s W U (hrun.later hU) hW hN)
 have g0:V.cell? ⟨G,0,none⟩=some (.pointer (some ⟨B,0,none⟩)):=bG.cell (o:=0) rfl
 have g1:V.cell? ⟨G,1,none⟩=some (.int .i64 n):=by rw[<-hn];exact bG.cell (o:=1) rfl
 have m1:V.cell? ⟨w.heap.size,1,none⟩=some (.int .i64 mw):=bM.cell (o:=1) rfl
 have hwy:∃hb:Bool,decide (0 < (len:Int))=hb/\(hb=true->Hid (∀U,Calls Tryz.prog 34 #[.int .i64 mi,.int .i64 len] U fun e w'=>e= .returned (.int .i64 I)/\U=w'))/\(hb=false->I=0):=by
  rcases hway with⟨h0,hI0⟩|⟨h0,hI0⟩
  ·exact⟨false,by rw[h0];rfl,(fun q=>by cases q),fun _=>hI0⟩
  ·exact⟨true,decide_eq_true (by omega),fun _=>fun U=>(pick_calls mi len hm4 (by omega) (by omega) U).mono fun e w' q=>⟨by rw[q.1,hI0],q.2.symm⟩,fun q=>by cases q⟩
 clear bG bM hbV h hrun hmv
 generalize moveS s ⟨mk,mw,mv,mi⟩=r at *
 generalize s.way.flatMap msgEnc=cs at *
 clear hWv hK hn hlen hI hway
 obtain⟨hb,hd,hp1,hp2⟩:=hwy
 have hq1:hb=true->(0:Int) < (len:Int):=fun h=>of_decide_eq_true (hd.trans h)
 have hq2:hb=true->0 < len:=fun h=>by have:=hq1 h;omega
 have hq3:hb=false->len=0:=fun h=>by have:=of_decide_eq_false (hd.trans h);omega
 have HPA:Hid (∀U c n v,(c=mk/\n=12/\v=K)\/(hb=true/\c=mi/\n=(len:Int)/\v=I)->Calls Tryz.prog 34 #[.int .i64 c,.int .i64 n] U fun e w'=>e= .returned (.int .i64 v)/\U=w'):=fun U c n v h=>by
  rcases h with⟨rfl,rfl,rfl⟩|⟨h1,rfl,rfl,rfl⟩
  ·exact HPK.out U
  ·exact(hp1 h1).out U
 clear HPK
 have hKs:K=0\/K=1\/K=2:=by omega
 rcases hKs with rfl|rfl|rfl
 all_goals
  cases hb
  all_goals
   (try (obtain rfl:=hp2 rfl))
   (try have q1:=hq1 rfl)
   (try have q2:=hq2 rfl)
   (try (obtain rfl:=hq3 rfl))
   clear hq1 hq2 hq3
   clear hp1 hp2
   go_enter Tryz.func25,Tryz.ntmps25
   go_upto_region 1 with fail
   go_upto_region 4 with(first
    |(go_at_call 34;refine(HP1.out _).mono ?_;rintro e w1 ⟨rfl,rfl⟩)
    |(go_at_call 56;refine HMS.out.mono ?_;rintro e w2 ⟨v2,rfl,hv2,hb2⟩
      obtain⟨va,vc,rfl⟩:=row_form hv2
      have HB2:=hid_of hb2
      clear hv2))
   have s2:=HB2.out.size
   have HBW:Hid (Below w.heap.size w w2):=HBV.out.trans (HB2.out.mono HBV.out.size)
   have g0':w2.cell? ⟨G,0,none⟩=some (.pointer (some ⟨B,0,none⟩)):=(HBG.out.below HB2.out (by omega)).cell (o:=0) rfl
   have m0':w2.cell? ⟨w.heap.size,0,none⟩=some (.int .i64 mk):=(HBM.out.below HB2.out (by omega)).cell (o:=0) rfl
   have m2':w2.cell? ⟨w.heap.size,2,none⟩=some (.int .i64 mv):=(HBM.out.below HB2.out (by omega)).cell (o:=2) rfl
   have m3':w2.cell? ⟨w.heap.size,3,none⟩=some (.int .i64 mi):=(HBM.out.below HB2.out (by omega)).cell (o:=3) rfl
   clear g0 g1 m1 hV HBG HBM
   go_wp2_with (first
    |(go_at_call 34;refine(HPA.out _ _ _ _ (by first|exact .inl ⟨rfl,rfl,rfl⟩|exact .inr (.inl ⟨rfl,rfl,rfl,rfl⟩)|exact .inr ⟨rfl,rfl,rfl,rfl⟩|exact .inr ⟨trivial,rfl,rfl,rfl⟩|exact .inr (.inl ⟨trivial,rfl,rfl,rfl⟩)|exact .inr (.inr ⟨rfl,rfl,rfl⟩))).mono ?_;rintro e w3 ⟨rfl,rfl⟩)
    |(go_at_call 22;refine(HX.out _ HBW.out).mono ?_;rintro e w9 ⟨v9,rfl,rfl,hr9⟩;have HR9:=hid_of hr9;clear hr9))
   go_ret
   exact⟨_,rfl,rfl,HR9.out⟩
set_option maxHeartbeats 8000000 in
set_option maxRecDepth 100000 in
theorem kmove_deliver(H:RunCalls){base:Nat}{own:Nat->Nat}{G B N:Nat}{s:RunS}{ka:Option Addr}{kc:Nat}{av dv:Value}{did:List ByteArray}{over done:Bool}(m:MoveS){w:World}(hm:MoveFits m)(h:GameAt base own w G B s ka kc av dv did over done)(hW:Whole N s)(hN:N+6<=80000000)(hc:5<=pickS m.k 12/\pickS m.k 12 < 8) :
  Calls Tryz.prog 25 #[.pointer (some ⟨G,0,none⟩),.agg (moveV m)] w (MoveGives (fun b=>own b=2/\b < w.heap.size) w B (moveS s m)):=by
 obtain⟨mk,mw,mv,mi⟩:=m
 obtain⟨hm1,hm2,hm3,hm4⟩:=hm
 dsimp only at hm1 hm2 hm3 hm4
 obtain⟨V,hV⟩:∃V,w.alloc (Obj.cells (moveV ⟨mk,mw,mv,mi⟩) 33)=V:=⟨_,rfl⟩
 have hbV:Below w.heap.size w V:=by rw[<-hV];exact(Below.refl _ _).alloc (Nat.le_refl _) _
 have bM:BoxAt V w.heap.size 33 (moveV ⟨mk,mw,mv,mi⟩):=by rw[<-hV];exact BoxAt.new w _ _
 have sV:V.heap.size=w.heap.size+1:=by rw[<-hV];simp
 have hGl:=h.box.lt
 have h2:=hW.fine.two
 have h5:=hW.fine.five
 have h60:=hW.fine.w60
 have bG:=h.box.below hbV hGl
 have hrun:XOK (fun b=>own b=2/\b < w.heap.size) w B s:=h.run.mono (fun b hb h=>⟨h,hb⟩)
 have HMS:=hid_of (H.messages _ B N s V (hrun.later hbV) hW)
 obtain⟨n,hn⟩:∃n,s.workers=n:=⟨_,rfl⟩
 obtain⟨W,hWv⟩:∃W,pickS mw n=W:=⟨_,rfl⟩
 obtain⟨K,hK⟩:∃K,pickS mk 12=K:=⟨_,rfl⟩
 have rW:=pickS_range mw n (by omega)
 have rK:=pickS_range mk 12 (by omega)
 rw[hWv]at rW
 rw[hK]at rK
 dsimp only at hc
 rw[hK]at hc
 have HP1:Hid (∀U,Calls Tryz.prog 34 #[.int .i64 mw,.int .i64 n] U fun e w'=>e= .returned (.int .i64 W)/\U=w'):=fun U=>(pick_calls mw n hm2 (by omega) (by omega) U).mono fun e w' q=>⟨by rw[q.1,hWv],q.2.symm⟩
 have HPK:Hid (∀U,Calls Tryz.prog 34 #[.int .i64 mk,.int .i64 12] U fun e w'=>e= .returned (.int .i64 K)/\U=w'):=fun U=>(pick_calls mk 12 hm1 (by omega) (by omega) U).mono fun e w' q=>⟨by rw[q.1,hK],q.2.symm⟩
 have HBG:=hid_of bG
 have HBM:=hid_of bM
 have HBV:=hid_of hbV
 have hway:(s.way.length=0/\placeS s mi=0)\/(0 < s.way.length/\placeS s mi=pickS mi s.way.length):=by
  unfold placeS
  cases hy:s.way with
  |nil=>exact .inl ⟨rfl,rfl⟩
  |cons a l=>exact .inr ⟨by simp,by simp⟩
 obtain⟨len,hlen⟩:∃len,s.way.length=len:=⟨_,rfl⟩
 obtain⟨I,hI⟩:∃I,placeS s mi=I:=⟨_,rfl⟩
 rw[hlen]at HMS h60
 rw[hlen,hI]at hway
 have hmv:moveS s ⟨mk,mw,mv,mi⟩=deliverS s I:=by
  unfold moveS
  dsimp only
  rw[hn,hK]
  rw[if_neg (by omega),if_neg (by omega),if_pos hc.2,hI]
 have HX:Hid (∀U,Below w.heap.size w U->Calls Tryz.prog 41 #[.pointer (some ⟨B,0,none⟩),.int .i64 I] U (MoveGives (fun b=>own b=2/\b < w.heap.size) w B (moveS s ⟨mk,mw,mv,mi⟩))):=fun U hU=>by
  rw[hmv]
  exact gives_later hU (H.deliver _ B N s I U (hrun.later hU) hW hN)
 have g0:V.cell? ⟨G,0,none⟩=some (.pointer (some ⟨B,0,none⟩)):=bG.cell (o:=0) rfl
 have g1:V.cell? ⟨G,1,none⟩=some (.int .i64 n):=by rw[<-hn];exact bG.cell (o:=1) rfl
 have m1:V.cell? ⟨w.heap.size,1,none⟩=some (.int .i64 mw):=bM.cell (o:=1) rfl
 have hwy:∃hb:Bool,decide (0 < (len:Int))=hb/\(hb=true->Hid (∀U,Calls Tryz.prog 34 #[.int .i64 mi,.int .i64 len] U fun e w'=>e= .returned (.int .i64 I)/\U=w'))/\(hb=false->I=0):=by
  rcases hway with⟨h0,hI0⟩|⟨h0,hI0⟩
  ·exact⟨false,by rw[h0];rfl,(fun q=>by cases q),fun _=>hI0⟩
  ·exact⟨true,decide_eq_true (by omega),fun _=>fun U=>(pick_calls mi len hm4 (by omega) (by omega) U).mono fun e w' q=>⟨by rw[q.1,hI0],q.2.symm⟩,fun q=>by cases q⟩
 clear bG bM hbV h hrun hmv
 generalize moveS s ⟨mk,mw,mv,mi⟩=r at *
 generalize s.way.flatMap msgEnc=cs at *
 clear hWv hK hn hlen hI hway
 obtain⟨hb,hd,hp1,hp2⟩:=hwy
 have hq1:hb=true->(0:Int) < (len:Int):=fun h=>of_decide_eq_true (hd.trans h)
 have hq2:hb=true->0 < len:=fun h=>by have:=hq1 h;omega
 have hq3:hb=false->len=0:=fun h=>by have:=of_decide_eq_false (hd.trans h);omega
 have HPA:Hid (∀U c n v,(c=mk/\n=12/\v=K)\/(hb=true/\c=mi/\n=(len:Int)/\v=I)->Calls Tryz.prog 34 #[.int .i64 c,.int .i64 n] U fun e w'=>e= .returned (.int .i64 v)/\U=w'):=fun U c n v h=>by
  rcases h with⟨rfl,rfl,rfl⟩|⟨h1,rfl,rfl,rfl⟩
  ·exact HPK.out U
  ·exact(hp1 h1).out U
 clear HPK
 have hKs:K=5\/K=6\/K=7:=by omega
 rcases hKs with rfl|rfl|rfl
 all_goals
  cases hb
  all_goals
   (try (obtain rfl:=hp2 rfl))
   (try have q1:=hq1 rfl)
   (try have q2:=hq2 rfl)
   (try (obtain rfl:=hq3 rfl))
   clear hq1 hq2 hq3
   clear hp1 hp2
   go_enter Tryz.func25,Tryz.ntmps25
   go_upto_region 1 with fail
   go_upto_region 4 with(first
    |(go_at_call 34;refine(HP1.out _).mono ?_;rintro e w1 ⟨rfl,rfl⟩)
    |(go_at_call 56;refine HMS.out.mono ?_;rintro e w2 ⟨v2,rfl,hv2,hb2⟩
      obtain⟨va,vc,rfl⟩:=row_form hv2
      have HB2:=hid_of hb2
      clear hv2))
   have s2:=HB2.out.size
   have HBW:Hid (Below w.heap.size w w2):=HBV.out.trans (HB2.out.mono HBV.out.size)
   have g0':w2.cell? ⟨G,0,none⟩=some (.pointer (some ⟨B,0,none⟩)):=(HBG.out.below HB2.out (by omega)).cell (o:=0) rfl
   have m0':w2.cell? ⟨w.heap.size,0,none⟩=some (.int .i64 mk):=(HBM.out.below HB2.out (by omega)).cell (o:=0) rfl
   have m2':w2.cell? ⟨w.heap.size,2,none⟩=some (.int .i64 mv):=(HBM.out.below HB2.out (by omega)).cell (o:=2) rfl
   have m3':w2.cell? ⟨w.heap.size,3,none⟩=some (.int .i64 mi):=(HBM.out.below HB2.out (by omega)).cell (o:=3) rfl
   clear g0 g1 m1 hV HBG HBM
   go_wp2_with (first
    |(go_at_call 34;refine(HPA.out _ _ _ _ (by first|exact .inl ⟨rfl,rfl,rfl⟩|exact .inr (.inl ⟨rfl,rfl,rfl,rfl⟩)|exact .inr ⟨rfl,rfl,rfl,rfl⟩|exact .inr ⟨trivial,rfl,rfl,rfl⟩|exact .inr (.inl ⟨trivial,rfl,rfl,rfl⟩)|exact .inr (.inr ⟨rfl,rfl,rfl⟩))).mono ?_;rintro e w3 ⟨rfl,rfl⟩)
    |(go_at_call 41;refine(HX.out _ HBW.out).mono ?_;rintro e w9 ⟨v9,rfl,rfl,hr9⟩;have HR9:=hid_of hr9;clear hr9))
   go_ret
   exact⟨_,rfl,rfl,HR9.out⟩
set_option maxHeartbeats 8000000 in
set_option maxRecDepth 100000 in
theorem kmove_tick(H:RunCalls){base:Nat}{own:Nat->Nat}{G B N:Nat}{s:RunS}{ka:Option Addr}{kc:Nat}{av dv:Value}{did:List ByteArray}{over done:Bool}(m:MoveS){w:World}(hm:MoveFits m)(h:GameAt base own w G B s ka kc av dv did over done)(hW:Whole N s)(hN:N+6<=80000000)(hc:pickS m.k 12=9) :
  Calls Tryz.prog 25 #[.pointer (some ⟨G,0,none⟩),.agg (moveV m)] w (MoveGives (fun b=>own b=2/\b < w.heap.size) w B (moveS s m)):=by
 obtain⟨mk,mw,mv,mi⟩:=m
 obtain⟨hm1,hm2,hm3,hm4⟩:=hm
 dsimp only at hm1 hm2 hm3 hm4
 obtain⟨V,hV⟩:∃V,w.alloc (Obj.cells (moveV ⟨mk,mw,mv,mi⟩) 33)=V:=⟨_,rfl⟩
 have hbV:Below w.heap.size w V:=by rw[<-hV];exact(Below.refl _ _).alloc (Nat.le_refl _) _
 have bM:BoxAt V w.heap.size 33 (moveV ⟨mk,mw,mv,mi⟩):=by rw[<-hV];exact BoxAt.new w _ _
 have sV:V.heap.size=w.heap.size+1:=by rw[<-hV];simp
 have hGl:=h.box.lt
 have h2:=hW.fine.two
 have h5:=hW.fine.five
 have h60:=hW.fine.w60
 have bG:=h.box.below hbV hGl
 have hrun:XOK (fun b=>own b=2/\b < w.heap.size) w B s:=h.run.mono (fun b hb h=>⟨h,hb⟩)
 have HMS:=hid_of (H.messages _ B N s V (hrun.later hbV) hW)
 obtain⟨n,hn⟩:∃n,s.workers=n:=⟨_,rfl⟩
 obtain⟨W,hWv⟩:∃W,pickS mw n=W:=⟨_,rfl⟩
 obtain⟨K,hK⟩:∃K,pickS mk 12=K:=⟨_,rfl⟩
 have rW:=pickS_range mw n (by omega)
 have rK:=pickS_range mk 12 (by omega)
 rw[hWv]at rW
 rw[hK]at rK
 dsimp only at hc
 rw[hK]at hc
 have HP1:Hid (∀U,Calls Tryz.prog 34 #[.int .i64 mw,.int .i64 n] U fun e w'=>e= .returned (.int .i64 W)/\U=w'):=fun U=>(pick_calls mw n hm2 (by omega) (by omega) U).mono fun e w' q=>⟨by rw[q.1,hWv],q.2.symm⟩
 have HPK:Hid (∀U,Calls Tryz.prog 34 #[.int .i64 mk,.int .i64 12] U fun e w'=>e= .returned (.int .i64 K)/\U=w'):=fun U=>(pick_calls mk 12 hm1 (by omega) (by omega) U).mono fun e w' q=>⟨by rw[q.1,hK],q.2.symm⟩
 have HBG:=hid_of bG
 have HBM:=hid_of bM
 have HBV:=hid_of hbV
 have hway:(s.way.length=0/\placeS s mi=0)\/(0 < s.way.length/\placeS s mi=pickS mi s.way.length):=by
  unfold placeS
  cases hy:s.way with
  |nil=>exact .inl ⟨rfl,rfl⟩
  |cons a l=>exact .inr ⟨by simp,by simp⟩
 obtain⟨len,hlen⟩:∃len,s.way.length=len:=⟨_,rfl⟩
 obtain⟨I,hI⟩:∃I,placeS s mi=I:=⟨_,rfl⟩
 rw[hlen]at HMS h60
 rw[hlen,hI]at hway
 have hmv:moveS s ⟨mk,mw,mv,mi⟩=tickS s W:=by
  unfold moveS
  dsimp only
  rw[hn,hK]
  rw[if_neg (by omega),if_neg (by omega),if_neg (by omega),if_neg (by omega),if_pos hc,hWv]
 have HX:Hid (∀U,Below w.heap.size w U->Calls Tryz.prog 40 #[.pointer (some ⟨B,0,none⟩),.int .i64 W] U (MoveGives (fun b=>own b=2/\b < w.heap.size) w B (moveS s ⟨mk,mw,mv,mi⟩))):=fun U hU=>by
  rw[hmv]
  exact gives_later hU (H.tick _ B N s W U (hrun.later hU) hW hN)
 have g0:V.cell? ⟨G,0,none⟩=some (.pointer (some ⟨B,0,none⟩)):=bG.cell (o:=0) rfl
 have g1:V.cell? ⟨G,1,none⟩=some (.int .i64 n):=by rw[<-hn];exact bG.cell (o:=1) rfl
 have m1:V.cell? ⟨w.heap.size,1,none⟩=some (.int .i64 mw):=bM.cell (o:=1) rfl
 have hwy:∃hb:Bool,decide (0 < (len:Int))=hb/\(hb=true->Hid (∀U,Calls Tryz.prog 34 #[.int .i64 mi,.int .i64 len] U fun e w'=>e= .returned (.int .i64 I)/\U=w'))/\(hb=false->I=0):=by
  rcases hway with⟨h0,hI0⟩|⟨h0,hI0⟩
  ·exact⟨false,by rw[h0];rfl,(fun q=>by cases q),fun _=>hI0⟩
  ·exact⟨true,decide_eq_true (by omega),fun _=>fun U=>(pick_calls mi len hm4 (by omega) (by omega) U).mono fun e w' q=>⟨by rw[q.1,hI0],q.2.symm⟩,fun q=>by cases q⟩
 clear bG bM hbV h hrun hmv
 generalize moveS s ⟨mk,mw,mv,mi⟩=r at *
 generalize s.way.flatMap msgEnc=cs at *
 clear hWv hK hn hlen hI hway
 obtain⟨hb,hd,hp1,hp2⟩:=hwy
 have hq1:hb=true->(0:Int) < (len:Int):=fun h=>of_decide_eq_true (hd.trans h)
 have hq2:hb=true->0 < len:=fun h=>by have:=hq1 h;omega
 have hq3:hb=false->len=0:=fun h=>by have:=of_decide_eq_false (hd.trans h);omega
 have HPA:Hid (∀U c n v,(c=mk/\n=12/\v=K)\/(hb=true/\c=mi/\n=(len:Int)/\v=I)->Calls Tryz.prog 34 #[.int .i64 c,.int .i64 n] U fun e w'=>e= .returned (.int .i64 v)/\U=w'):=fun U c n v h=>by
  rcases h with⟨rfl,rfl,rfl⟩|⟨h1,rfl,rfl,rfl⟩
  ·exact HPK.out U
  ·exact(hp1 h1).out U
 clear HPK
 subst hc
 all_goals
  cases hb
  all_goals
   (try (obtain rfl:=hp2 rfl))
   (try have q1:=hq1 rfl)
   (try have q2:=hq2 rfl)
   (try (obtain rfl:=hq3 rfl))
   clear hq1 hq2 hq3
   clear hp1 hp2
   go_enter Tryz.func25,Tryz.ntmps25
   go_upto_region 1 with fail
   go_upto_region 4 with(first
    |(go_at_call 34;refine(HP1.out _).mono ?_;rintro e w1 ⟨rfl,rfl⟩)
    |(go_at_call 56;refine HMS.out.mono ?_;rintro e w2 ⟨v2,rfl,hv2,hb2⟩
      obtain⟨va,vc,rfl⟩:=row_form hv2
      have HB2:=hid_of hb2
      clear hv2))
   have s2:=HB2.out.size
   have HBW:Hid (Below w.heap.size w w2):=HBV.out.trans (HB2.out.mono HBV.out.size)
   have g0':w2.cell? ⟨G,0,none⟩=some (.pointer (some ⟨B,0,none⟩)):=(HBG.out.below HB2.out (by omega)).cell (o:=0) rfl
   have m0':w2.cell? ⟨w.heap.size,0,none⟩=some (.int .i64 mk):=(HBM.out.below HB2.out (by omega)).cell (o:=0) rfl
   have m2':w2.cell? ⟨w.heap.size,2,none⟩=some (.int .i64 mv):=(HBM.out.below HB2.out (by omega)).cell (o:=2) rfl
   have m3':w2.cell? ⟨w.heap.size,3,none⟩=some (.int .i64 mi):=(HBM.out.below HB2.out (by omega)).cell (o:=3) rfl
   clear g0 g1 m1 hV HBG HBM
   go_wp2_with (first
    |(go_at_call 34;refine(HPA.out _ _ _ _ (by first|exact .inl ⟨rfl,rfl,rfl⟩|exact .inr (.inl ⟨rfl,rfl,rfl,rfl⟩)|exact .inr ⟨rfl,rfl,rfl,rfl⟩|exact .inr ⟨trivial,rfl,rfl,rfl⟩|exact .inr (.inl ⟨trivial,rfl,rfl,rfl⟩)|exact .inr (.inr ⟨rfl,rfl,rfl⟩))).mono ?_;rintro e w3 ⟨rfl,rfl⟩)
    |(go_at_call 40;refine(HX.out _ HBW.out).mono ?_;rintro e w9 ⟨v9,rfl,rfl,hr9⟩;have HR9:=hid_of hr9;clear hr9))
   go_ret
   exact⟨_,rfl,rfl,HR9.out⟩
set_option maxHeartbeats 8000000 in
set_option maxRecDepth 100000 in
theorem kmove_pass(H:RunCalls){base:Nat}{own:Nat->Nat}{G B N:Nat}{s:RunS}{ka:Option Addr}{kc:Nat}{av dv:Value}{did:List ByteArray}{over done:Bool}(m:MoveS){w:World}(hm:MoveFits m)(h:GameAt base own w G B s ka kc av dv did over done)(hW:Whole N s)(hN:N+6<=80000000)(hc:pickS m.k 12=10) :
  Calls Tryz.prog 25 #[.pointer (some ⟨G,0,none⟩),.agg (moveV m)] w (MoveGives (fun b=>own b=2/\b < w.heap.size) w B (moveS s m)):=by
 obtain⟨mk,mw,mv,mi⟩:=m
 obtain⟨hm1,hm2,hm3,hm4⟩:=hm
 dsimp only at hm1 hm2 hm3 hm4
 obtain⟨V,hV⟩:∃V,w.alloc (Obj.cells (moveV ⟨mk,mw,mv,mi⟩) 33)=V:=⟨_,rfl⟩
 have hbV:Below w.heap.size w V:=by rw[<-hV];exact(Below.refl _ _).alloc (Nat.le_refl _) _
 have bM:BoxAt V w.heap.size 33 (moveV ⟨mk,mw,mv,mi⟩):=by rw[<-hV];exact BoxAt.new w _ _
 have sV:V.heap.size=w.heap.size+1:=by rw[<-hV];simp
 have hGl:=h.box.lt
 have h2:=hW.fine.two
 have h5:=hW.fine.five
 have h60:=hW.fine.w60
 have bG:=h.box.below hbV hGl
 have hrun:XOK (fun b=>own b=2/\b < w.heap.size) w B s:=h.run.mono (fun b hb h=>⟨h,hb⟩)
 have HMS:=hid_of (H.messages _ B N s V (hrun.later hbV) hW)
 obtain⟨n,hn⟩:∃n,s.workers=n:=⟨_,rfl⟩
 obtain⟨W,hWv⟩:∃W,pickS mw n=W:=⟨_,rfl⟩
 obtain⟨K,hK⟩:∃K,pickS mk 12=K:=⟨_,rfl⟩
 have rW:=pickS_range mw n (by omega)
 have rK:=pickS_range mk 12 (by omega)
 rw[hWv]at rW
 rw[hK]at rK
 dsimp only at hc
 rw[hK]at hc
 have HP1:Hid (∀U,Calls Tryz.prog 34 #[.int .i64 mw,.int .i64 n] U fun e w'=>e= .returned (.int .i64 W)/\U=w'):=fun U=>(pick_calls mw n hm2 (by omega) (by omega) U).mono fun e w' q=>⟨by rw[q.1,hWv],q.2.symm⟩
 have HPK:Hid (∀U,Calls Tryz.prog 34 #[.int .i64 mk,.int .i64 12] U fun e w'=>e= .returned (.int .i64 K)/\U=w'):=fun U=>(pick_calls mk 12 hm1 (by omega) (by omega) U).mono fun e w' q=>⟨by rw[q.1,hK],q.2.symm⟩
 have HBG:=hid_of bG
 have HBM:=hid_of bM
 have HBV:=hid_of hbV
 have hway:(s.way.length=0/\placeS s mi=0)\/(0 < s.way.length/\placeS s mi=pickS mi s.way.length):=by
  unfold placeS
  cases hy:s.way with
  |nil=>exact .inl ⟨rfl,rfl⟩
  |cons a l=>exact .inr ⟨by simp,by simp⟩
 obtain⟨len,hlen⟩:∃len,s.way.length=len:=⟨_,rfl⟩
 obtain⟨I,hI⟩:∃I,placeS s mi=I:=⟨_,rfl⟩
 rw[hlen]at HMS h60
 rw[hlen,hI]at hway
 have hmv:moveS s ⟨mk,mw,mv,mi⟩=passS s W:=by
  unfold moveS
  dsimp only
  rw[hn,hK]
  rw[if_neg (by omega),if_neg (by omega),if_neg (by omega),if_neg (by omega),if_neg (by omega),if_pos hc,hWv]
 have HX:Hid (∀U,Below w.heap.size w U->Calls Tryz.prog 39 #[.pointer (some ⟨B,0,none⟩),.int .i64 W] U (MoveGives (fun b=>own b=2/\b < w.heap.size) w B (moveS s ⟨mk,mw,mv,mi⟩))):=fun U hU=>by
  rw[hmv]
  exact gives_later hU (H.pass _ B N s W U (hrun.later hU) hW hN)
 have g0:V.cell? ⟨G,0,none⟩=some (.pointer (some ⟨B,0,none⟩)):=bG.cell (o:=0) rfl
 have g1:V.cell? ⟨G,1,none⟩=some (.int .i64 n):=by rw[<-hn];exact bG.cell (o:=1) rfl
 have m1:V.cell? ⟨w.heap.size,1,none⟩=some (.int .i64 mw):=bM.cell (o:=1) rfl
 have hwy:∃hb:Bool,decide (0 < (len:Int))=hb/\(hb=true->Hid (∀U,Calls Tryz.prog 34 #[.int .i64 mi,.int .i64 len] U fun e w'=>e= .returned (.int .i64 I)/\U=w'))/\(hb=false->I=0):=by
  rcases hway with⟨h0,hI0⟩|⟨h0,hI0⟩
  ·exact⟨false,by rw[h0];rfl,(fun q=>by cases q),fun _=>hI0⟩
  ·exact⟨true,decide_eq_true (by omega),fun _=>fun U=>(pick_calls mi len hm4 (by omega) (by omega) U).mono fun e w' q=>⟨by rw[q.1,hI0],q.2.symm⟩,fun q=>by cases q⟩
 clear bG bM hbV h hrun hmv
 generalize moveS s ⟨mk,mw,mv,mi⟩=r at *
 generalize s.way.flatMap msgEnc=cs at *
 clear hWv hK hn hlen hI hway
 obtain⟨hb,hd,hp1,hp2⟩:=hwy
 have hq1:hb=true->(0:Int) < (len:Int):=fun h=>of_decide_eq_true (hd.trans h)
 have hq2:hb=true->0 < len:=fun h=>by have:=hq1 h;omega
 have hq3:hb=false->len=0:=fun h=>by have:=of_decide_eq_false (hd.trans h);omega
 have HPA:Hid (∀U c n v,(c=mk/\n=12/\v=K)\/(hb=true/\c=mi/\n=(len:Int)/\v=I)->Calls Tryz.prog 34 #[.int .i64 c,.int .i64 n] U fun e w'=>e= .returned (.int .i64 v)/\U=w'):=fun U c n v h=>by
  rcases h with⟨rfl,rfl,rfl⟩|⟨h1,rfl,rfl,rfl⟩
  ·exact HPK.out U
  ·exact(hp1 h1).out U
 clear HPK
 subst hc
 all_goals
  cases hb
  all_goals
   (try (obtain rfl:=hp2 rfl))
   (try have q1:=hq1 rfl)
   (try have q2:=hq2 rfl)
   (try (obtain rfl:=hq3 rfl))
   clear hq1 hq2 hq3
   clear hp1 hp2
   go_enter Tryz.func25,Tryz.ntmps25
   go_upto_region 1 with fail
   go_upto_region 4 with(first
    |(go_at_call 34;refine(HP1.out _).mono ?_;rintro e w1 ⟨rfl,rfl⟩)
    |(go_at_call 56;refine HMS.out.mono ?_;rintro e w2 ⟨v2,rfl,hv2,hb2⟩
      obtain⟨va,vc,rfl⟩:=row_form hv2
      have HB2:=hid_of hb2
      clear hv2))
   have s2:=HB2.out.size
   have HBW:Hid (Below w.heap.size w w2):=HBV.out.trans (HB2.out.mono HBV.out.size)
   have g0':w2.cell? ⟨G,0,none⟩=some (.pointer (some ⟨B,0,none⟩)):=(HBG.out.below HB2.out (by omega)).cell (o:=0) rfl
   have m0':w2.cell? ⟨w.heap.size,0,none⟩=some (.int .i64 mk):=(HBM.out.below HB2.out (by omega)).cell (o:=0) rfl
   have m2':w2.cell? ⟨w.heap.size,2,none⟩=some (.int .i64 mv):=(HBM.out.below HB2.out (by omega)).cell (o:=2) rfl
   have m3':w2.cell? ⟨w.heap.size,3,none⟩=some (.int .i64 mi):=(HBM.out.below HB2.out (by omega)).cell (o:=3) rfl
   clear g0 g1 m1 hV HBG HBM
   go_wp2_with (first
    |(go_at_call 34;refine(HPA.out _ _ _ _ (by first|exact .inl ⟨rfl,rfl,rfl⟩|exact .inr (.inl ⟨rfl,rfl,rfl,rfl⟩)|exact .inr ⟨rfl,rfl,rfl,rfl⟩|exact .inr ⟨trivial,rfl,rfl,rfl⟩|exact .inr (.inl ⟨trivial,rfl,rfl,rfl⟩)|exact .inr (.inr ⟨rfl,rfl,rfl⟩))).mono ?_;rintro e w3 ⟨rfl,rfl⟩)
    |(go_at_call 39;refine(HX.out _ HBW.out).mono ?_;rintro e w9 ⟨v9,rfl,rfl,hr9⟩;have HR9:=hid_of hr9;clear hr9))
   go_ret
   exact⟨_,rfl,rfl,HR9.out⟩
set_option maxHeartbeats 8000000 in
set_option maxRecDepth 100000 in
theorem kmove_check(H:RunCalls){base:Nat}{own:Nat->Nat}{G B N:Nat}{s:RunS}{ka:Option Addr}{kc:Nat}{av dv:Value}{did:List ByteArray}{over done:Bool}(m:MoveS){w:World}(hm:MoveFits m)(h:GameAt base own w G B s ka kc av dv did over done)(hW:Whole N s)(hN:N+6<=80000000)(hc:pickS m.k 12=11) :
  Calls Tryz.prog 25 #[.pointer (some ⟨G,0,none⟩),.agg (moveV m)] w (MoveGives (fun b=>own b=2/\b < w.heap.size) w B (moveS s m)):=by
 obtain⟨mk,mw,mv,mi⟩:=m
 obtain⟨hm1,hm2,hm3,hm4⟩:=hm
 dsimp only at hm1 hm2 hm3 hm4
 obtain⟨V,hV⟩:∃V,w.alloc (Obj.cells (moveV ⟨mk,mw,mv,mi⟩) 33)=V:=⟨_,rfl⟩
 have hbV:Below w.heap.size w V:=by rw[<-hV];exact(Below.refl _ _).alloc (Nat.le_refl _) _
 have bM:BoxAt V w.heap.size 33 (moveV ⟨mk,mw,mv,mi⟩):=by rw[<-hV];exact BoxAt.new w _ _
 have sV:V.heap.size=w.heap.size+1:=by rw[<-hV];simp
 have hGl:=h.box.lt
 have h2:=hW.fine.two
 have h5:=hW.fine.five
 have h60:=hW.fine.w60
 have bG:=h.box.below hbV hGl
 have hrun:XOK (fun b=>own b=2/\b < w.heap.size) w B s:=h.run.mono (fun b hb h=>⟨h,hb⟩)
 have HMS:=hid_of (H.messages _ B N s V (hrun.later hbV) hW)
 obtain⟨n,hn⟩:∃n,s.workers=n:=⟨_,rfl⟩
 obtain⟨W,hWv⟩:∃W,pickS mw n=W:=⟨_,rfl⟩
 obtain⟨K,hK⟩:∃K,pickS mk 12=K:=⟨_,rfl⟩
 have rW:=pickS_range mw n (by omega)
 have rK:=pickS_range mk 12 (by omega)
 rw[hWv]at rW
 rw[hK]at rK
 dsimp only at hc
 rw[hK]at hc
 have HP1:Hid (∀U,Calls Tryz.prog 34 #[.int .i64 mw,.int .i64 n] U fun e w'=>e= .returned (.int .i64 W)/\U=w'):=fun U=>(pick_calls mw n hm2 (by omega) (by omega) U).mono fun e w' q=>⟨by rw[q.1,hWv],q.2.symm⟩
 have HPK:Hid (∀U,Calls Tryz.prog 34 #[.int .i64 mk,.int .i64 12] U fun e w'=>e= .returned (.int .i64 K)/\U=w'):=fun U=>(pick_calls mk 12 hm1 (by omega) (by omega) U).mono fun e w' q=>⟨by rw[q.1,hK],q.2.symm⟩
 have HBG:=hid_of bG
 have HBM:=hid_of bM
 have HBV:=hid_of hbV
 have hway:(s.way.length=0/\placeS s mi=0)\/(0 < s.way.length/\placeS s mi=pickS mi s.way.length):=by
  unfold placeS
  cases hy:s.way with
  |nil=>exact .inl ⟨rfl,rfl⟩
  |cons a l=>exact .inr ⟨by simp,by simp⟩
 obtain⟨len,hlen⟩:∃len,s.way.length=len:=⟨_,rfl⟩
 obtain⟨I,hI⟩:∃I,placeS s mi=I:=⟨_,rfl⟩
 rw[hlen]at HMS h60
 rw[hlen,hI]at hway
 have hmv:moveS s ⟨mk,mw,mv,mi⟩=checkS s:=by
  unfold moveS
  dsimp only
  rw[hn,hK]
  rw[if_neg (by omega),if_neg (by omega),if_neg (by omega),if_neg (by omega),if_neg (by omega),if_neg (by omega)]
 have HX:Hid (∀U,Below w.heap.size w U->Calls Tryz.prog 19 #[.pointer (some ⟨B,0,none⟩)] U (MoveGives (fun b=>own b=2/\b < w.heap.size) w B (moveS s ⟨mk,mw,mv,mi⟩))):=fun U hU=>by
  rw[hmv]
  exact gives_later hU (H.check _ B N s U (hrun.later hU) hW hN)
 have g0:V.cell? ⟨G,0,none⟩=some (.pointer (some ⟨B,0,none⟩)):=bG.cell (o:=0) rfl
 have g1:V.cell? ⟨G,1,none⟩=some (.int .i64 n):=by rw[<-hn];exact bG.cell (o:=1) rfl
 have m1:V.cell? ⟨w.heap.size,1,none⟩=some (.int .i64 mw):=bM.cell (o:=1) rfl
 have hwy:∃hb:Bool,decide (0 < (len:Int))=hb/\(hb=true->Hid (∀U,Calls Tryz.prog 34 #[.int .i64 mi,.int .i64 len] U fun e w'=>e= .returned (.int .i64 I)/\U=w'))/\(hb=false->I=0):=by
  rcases hway with⟨h0,hI0⟩|⟨h0,hI0⟩
  ·exact⟨false,by rw[h0];rfl,(fun q=>by cases q),fun _=>hI0⟩
  ·exact⟨true,decide_eq_true (by omega),fun _=>fun U=>(pick_calls mi len hm4 (by omega) (by omega) U).mono fun e w' q=>⟨by rw[q.1,hI0],q.2.symm⟩,fun q=>by cases q⟩
 clear bG bM hbV h hrun hmv
 generalize moveS s ⟨mk,mw,mv,mi⟩=r at *
 generalize s.way.flatMap msgEnc=cs at *
 clear hWv hK hn hlen hI hway
 obtain⟨hb,hd,hp1,hp2⟩:=hwy
 have hq1:hb=true->(0:Int) < (len:Int):=fun h=>of_decide_eq_true (hd.trans h)
 have hq2:hb=true->0 < len:=fun h=>by have:=hq1 h;omega
 have hq3:hb=false->len=0:=fun h=>by have:=of_decide_eq_false (hd.trans h);omega
 have HPA:Hid (∀U c n v,(c=mk/\n=12/\v=K)\/(hb=true/\c=mi/\n=(len:Int)/\v=I)->Calls Tryz.prog 34 #[.int .i64 c,.int .i64 n] U fun e w'=>e= .returned (.int .i64 v)/\U=w'):=fun U c n v h=>by
  rcases h with⟨rfl,rfl,rfl⟩|⟨h1,rfl,rfl,rfl⟩
  ·exact HPK.out U
  ·exact(hp1 h1).out U
 clear HPK
 subst hc
 all_goals
  cases hb
  all_goals
   (try (obtain rfl:=hp2 rfl))
   (try have q1:=hq1 rfl)
   (try have q2:=hq2 rfl)
   (try (obtain rfl:=hq3 rfl))
   clear hq1 hq2 hq3
   clear hp1 hp2
   go_enter Tryz.func25,Tryz.ntmps25
   go_upto_region 1 with fail
   go_upto_region 4 with(first
    |(go_at_call 34;refine(HP1.out _).mono ?_;rintro e w1 ⟨rfl,rfl⟩)
    |(go_at_call 56;refine HMS.out.mono ?_;rintro e w2 ⟨v2,rfl,hv2,hb2⟩
      obtain⟨va,vc,rfl⟩:=row_form hv2
      have HB2:=hid_of hb2
      clear hv2))
   have s2:=HB2.out.size
   have HBW:Hid (Below w.heap.size w w2):=HBV.out.trans (HB2.out.mono HBV.out.size)
   have g0':w2.cell? ⟨G,0,none⟩=some (.pointer (some ⟨B,0,none⟩)):=(HBG.out.below HB2.out (by omega)).cell (o:=0) rfl
   have m0':w2.cell? ⟨w.heap.size,0,none⟩=some (.int .i64 mk):=(HBM.out.below HB2.out (by omega)).cell (o:=0) rfl
   have m2':w2.cell? ⟨w.heap.size,2,none⟩=some (.int .i64 mv):=(HBM.out.below HB2.out (by omega)).cell (o:=2) rfl
   have m3':w2.cell? ⟨w.heap.size,3,none⟩=some (.int .i64 mi):=(HBM.out.below HB2.out (by omega)).cell (o:=3) rfl
   clear g0 g1 m1 hV HBG HBM
   go_wp2_with (first
    |(go_at_call 34;refine(HPA.out _ _ _ _ (by first|exact .inl ⟨rfl,rfl,rfl⟩|exact .inr (.inl ⟨rfl,rfl,rfl,rfl⟩)|exact .inr ⟨rfl,rfl,rfl,rfl⟩|exact .inr ⟨trivial,rfl,rfl,rfl⟩|exact .inr (.inl ⟨trivial,rfl,rfl,rfl⟩)|exact .inr (.inr ⟨rfl,rfl,rfl⟩))).mono ?_;rintro e w3 ⟨rfl,rfl⟩)
    |(go_at_call 19;refine(HX.out _ HBW.out).mono ?_;rintro e w9 ⟨v9,rfl,rfl,hr9⟩;have HR9:=hid_of hr9;clear hr9))
   go_ret
   exact⟨_,rfl,rfl,HR9.out⟩
set_option maxHeartbeats 8000000 in
set_option maxRecDepth 100000 in
theorem kmove_drop(H:RunCalls){base:Nat}{own:Nat->Nat}{G B N:Nat}{s:RunS}{ka:Option Addr}{kc:Nat}{av dv:Value}{did:List ByteArray}{over done:Bool}(m:MoveS){w:World}(hm:MoveFits m)(h:GameAt base own w G B s ka kc av dv did over done)(hW:Whole N s)(hN:N+6<=80000000)(hc:pickS m.k 12=8)(h8:pickS m.v 2=0) :
  Calls Tryz.prog 25 #[.pointer (some ⟨G,0,none⟩),.agg (moveV m)] w (MoveGives (fun b=>own b=2/\b < w.heap.size) w B (moveS s m)):=by
 obtain⟨mk,mw,mv,mi⟩:=m
 obtain⟨hm1,hm2,hm3,hm4⟩:=hm
 dsimp only at hm1 hm2 hm3 hm4
 obtain⟨V,hV⟩:∃V,w.alloc (Obj.cells (moveV ⟨mk,mw,mv,mi⟩) 33)=V:=⟨_,rfl⟩
 have hbV:Below w.heap.size w V:=by rw[<-hV];exact(Below.refl _ _).alloc (Nat.le_refl _) _
 have bM:BoxAt V w.heap.size 33 (moveV ⟨mk,mw,mv,mi⟩):=by rw[<-hV];exact BoxAt.new w _ _
 have sV:V.heap.size=w.heap.size+1:=by rw[<-hV];simp
 have hGl:=h.box.lt
 have h2:=hW.fine.two
 have h5:=hW.fine.five
 have h60:=hW.fine.w60
 have bG:=h.box.below hbV hGl
 have hrun:XOK (fun b=>own b=2/\b < w.heap.size) w B s:=h.run.mono (fun b hb h=>⟨h,hb⟩)
 have HMS:=hid_of (H.messages _ B N s V (hrun.later hbV) hW)
 obtain⟨n,hn⟩:∃n,s.workers=n:=⟨_,rfl⟩
 obtain⟨W,hWv⟩:∃W,pickS mw n=W:=⟨_,rfl⟩
 obtain⟨K,hK⟩:∃K,pickS mk 12=K:=⟨_,rfl⟩
 have rW:=pickS_range mw n (by omega)
 have rK:=pickS_range mk 12 (by omega)
 rw[hWv]at rW
 rw[hK]at rK
 dsimp only at hc
 rw[hK]at hc
 have HP1:Hid (∀U,Calls Tryz.prog 34 #[.int .i64 mw,.int .i64 n] U fun e w'=>e= .returned (.int .i64 W)/\U=w'):=fun U=>(pick_calls mw n hm2 (by omega) (by omega) U).mono fun e w' q=>⟨by rw[q.1,hWv],q.2.symm⟩
 have HPK:Hid (∀U,Calls Tryz.prog 34 #[.int .i64 mk,.int .i64 12] U fun e w'=>e= .returned (.int .i64 K)/\U=w'):=fun U=>(pick_calls mk 12 hm1 (by omega) (by omega) U).mono fun e w' q=>⟨by rw[q.1,hK],q.2.symm⟩
 have HBG:=hid_of bG
 have HBM:=hid_of bM
 have HBV:=hid_of hbV
 have hway:(s.way.length=0/\placeS s mi=0)\/(0 < s.way.length/\placeS s mi=pickS mi s.way.length):=by
  unfold placeS
  cases hy:s.way with
  |nil=>exact .inl ⟨rfl,rfl⟩
  |cons a l=>exact .inr ⟨by simp,by simp⟩
 obtain⟨len,hlen⟩:∃len,s.way.length=len:=⟨_,rfl⟩
 obtain⟨I,hI⟩:∃I,placeS s mi=I:=⟨_,rfl⟩
 rw[hlen]at HMS h60
 rw[hlen,hI]at hway
 have r8:=pickS_range mv 2 (by omega)
 have e8:pickS mv 2=0:=by dsimp only at h8;omega
 have HP8:Hid (∀U,Calls Tryz.prog 34 #[.int .i64 mv,.int .i64 2] U fun e w'=>e= .returned (.int .i64 0)/\U=w'):=fun U=>(pick_calls mv 2 hm3 (by omega) (by omega) U).mono fun e w' q=>⟨by rw[q.1,e8],q.2.symm⟩
 have hmv:moveS s ⟨mk,mw,mv,mi⟩=dropS s I:=by
  unfold moveS
  dsimp only
  rw[hn,hK]
  rw[if_neg (by omega),if_neg (by omega),if_neg (by omega),if_pos hc,if_pos h8,hI]
 have HX:Hid (∀U,Below w.heap.size w U->Calls Tryz.prog 58 #[.pointer (some ⟨B,0,none⟩),.int .i64 I] U (MoveGives (fun b=>own b=2/\b < w.heap.size) w B (moveS s ⟨mk,mw,mv,mi⟩))):=fun U hU=>by
  rw[hmv]
  exact gives_later hU (H.drop _ B N s I U (hrun.later hU) hW hN)
 have g0:V.cell? ⟨G,0,none⟩=some (.pointer (some ⟨B,0,none⟩)):=bG.cell (o:=0) rfl
 have g1:V.cell? ⟨G,1,none⟩=some (.int .i64 n):=by rw[<-hn];exact bG.cell (o:=1) rfl
 have m1:V.cell? ⟨w.heap.size,1,none⟩=some (.int .i64 mw):=bM.cell (o:=1) rfl
 have hwy:∃hb:Bool,decide (0 < (len:Int))=hb/\(hb=true->Hid (∀U,Calls Tryz.prog 34 #[.int .i64 mi,.int .i64 len] U fun e w'=>e= .returned (.int .i64 I)/\U=w'))/\(hb=false->I=0):=by
  rcases hway with⟨h0,hI0⟩|⟨h0,hI0⟩
  ·exact⟨false,by rw[h0];rfl,(fun q=>by cases q),fun _=>hI0⟩
  ·exact⟨true,decide_eq_true (by omega),fun _=>fun U=>(pick_calls mi len hm4 (by omega) (by omega) U).mono fun e w' q=>⟨by rw[q.1,hI0],q.2.symm⟩,fun q=>by cases q⟩
 clear bG bM hbV h hrun hmv
 generalize moveS s ⟨mk,mw,mv,mi⟩=r at *
 generalize s.way.flatMap msgEnc=cs at *
 clear hWv hK hn hlen hI hway
 obtain⟨hb,hd,hp1,hp2⟩:=hwy
 have hq1:hb=true->(0:Int) < (len:Int):=fun h=>of_decide_eq_true (hd.trans h)
 have hq2:hb=true->0 < len:=fun h=>by have:=hq1 h;omega
 have hq3:hb=false->len=0:=fun h=>by have:=of_decide_eq_false (hd.trans h);omega
 have HPA:Hid (∀U c n v,(c=mk/\n=12/\v=K)\/(hb=true/\c=mi/\n=(len:Int)/\v=I)\/(c=mv/\n=2/\v=0)->Calls Tryz.prog 34 #[.int .i64 c,.int .i64 n] U fun e w'=>e= .returned (.int .i64 v)/\U=w'):=fun U c n v h=>by
  rcases h with⟨rfl,rfl,rfl⟩|⟨h1,rfl,rfl,rfl⟩|⟨rfl,rfl,rfl⟩
  ·exact HPK.out U
  ·exact(hp1 h1).out U
  ·exact HP8.out U
 clear HPK
 subst hc
 clear h8 e8 r8 HP8
 all_goals
  cases hb
  all_goals
   (try (obtain rfl:=hp2 rfl))
   (try have q1:=hq1 rfl)
   (try have q2:=hq2 rfl)
   (try (obtain rfl:=hq3 rfl))
   clear hq1 hq2 hq3
   clear hp1 hp2
   go_enter Tryz.func25,Tryz.ntmps25
   go_upto_region 1 with fail
   go_upto_region 4 with(first
    |(go_at_call 34;refine(HP1.out _).mono ?_;rintro e w1 ⟨rfl,rfl⟩)
    |(go_at_call 56;refine HMS.out.mono ?_;rintro e w2 ⟨v2,rfl,hv2,hb2⟩
      obtain⟨va,vc,rfl⟩:=row_form hv2
      have HB2:=hid_of hb2
      clear hv2))
   have s2:=HB2.out.size
   have HBW:Hid (Below w.heap.size w w2):=HBV.out.trans (HB2.out.mono HBV.out.size)
   have g0':w2.cell? ⟨G,0,none⟩=some (.pointer (some ⟨B,0,none⟩)):=(HBG.out.below HB2.out (by omega)).cell (o:=0) rfl
   have m0':w2.cell? ⟨w.heap.size,0,none⟩=some (.int .i64 mk):=(HBM.out.below HB2.out (by omega)).cell (o:=0) rfl
   have m2':w2.cell? ⟨w.heap.size,2,none⟩=some (.int .i64 mv):=(HBM.out.below HB2.out (by omega)).cell (o:=2) rfl
   have m3':w2.cell? ⟨w.heap.size,3,none⟩=some (.int .i64 mi):=(HBM.out.below HB2.out (by omega)).cell (o:=3) rfl
   clear g0 g1 m1 hV HBG HBM
   go_wp2_with (first
    |(go_at_call 34;refine(HPA.out _ _ _ _ (by first|exact .inl ⟨rfl,rfl,rfl⟩|exact .inr (.inl ⟨rfl,rfl,rfl,rfl⟩)|exact .inr ⟨rfl,rfl,rfl,rfl⟩|exact .inr ⟨trivial,rfl,rfl,rfl⟩|exact .inr (.inl ⟨trivial,rfl,rfl,rfl⟩)|exact .inr (.inr ⟨rfl,rfl,rfl⟩))).mono ?_;rintro e w3 ⟨rfl,rfl⟩)
    |(go_at_call 58;refine(HX.out _ HBW.out).mono ?_;rintro e w9 ⟨v9,rfl,rfl,hr9⟩;have HR9:=hid_of hr9;clear hr9))
   go_ret
   exact⟨_,rfl,rfl,HR9.out⟩
set_option maxHeartbeats 8000000 in
set_option maxRecDepth 100000 in
theorem kmove_twice(H:RunCalls){base:Nat}{own:Nat->Nat}{G B N:Nat}{s:RunS}{ka:Option Addr}{kc:Nat}{av dv:Value}{did:List ByteArray}{over done:Bool}(m:MoveS){w:World}(hm:MoveFits m)(h:GameAt base own w G B s ka kc av dv did over done)(hW:Whole N s)(hN:N+6<=80000000)(hc:pickS m.k 12=8)(h8:pickS m.v 2≠0) :
  Calls Tryz.prog 25 #[.pointer (some ⟨G,0,none⟩),.agg (moveV m)] w (MoveGives (fun b=>own b=2/\b < w.heap.size) w B (moveS s m)):=by
 obtain⟨mk,mw,mv,mi⟩:=m
 obtain⟨hm1,hm2,hm3,hm4⟩:=hm
 dsimp only at hm1 hm2 hm3 hm4
 obtain⟨V,hV⟩:∃V,w.alloc (Obj.cells (moveV ⟨mk,mw,mv,mi⟩) 33)=V:=⟨_,rfl⟩
 have hbV:Below w.heap.size w V:=by rw[<-hV];exact(Below.refl _ _).alloc (Nat.le_refl _) _
 have bM:BoxAt V w.heap.size 33 (moveV ⟨mk,mw,mv,mi⟩):=by rw[<-hV];exact BoxAt.new w _ _
 have sV:V.heap.size=w.heap.size+1:=by rw[<-hV];simp
 have hGl:=h.box.lt
 have h2:=hW.fine.two
 have h5:=hW.fine.five
 have h60:=hW.fine.w60
 have bG:=h.box.below hbV hGl
 have hrun:XOK (fun b=>own b=2/\b < w.heap.size) w B s:=h.run.mono (fun b hb h=>⟨h,hb⟩)
 have HMS:=hid_of (H.messages _ B N s V (hrun.later hbV) hW)
 obtain⟨n,hn⟩:∃n,s.workers=n:=⟨_,rfl⟩
 obtain⟨W,hWv⟩:∃W,pickS mw n=W:=⟨_,rfl⟩
 obtain⟨K,hK⟩:∃K,pickS mk 12=K:=⟨_,rfl⟩
 have rW:=pickS_range mw n (by omega)
 have rK:=pickS_range mk 12 (by omega)
 rw[hWv]at rW
 rw[hK]at rK
 dsimp only at hc
 rw[hK]at hc
 have HP1:Hid (∀U,Calls Tryz.prog 34 #[.int .i64 mw,.int .i64 n] U fun e w'=>e= .returned (.int .i64 W)/\U=w'):=fun U=>(pick_calls mw n hm2 (by omega) (by omega) U).mono fun e w' q=>⟨by rw[q.1,hWv],q.2.symm⟩
 have HPK:Hid (∀U,Calls Tryz.prog 34 #[.int .i64 mk,.int .i64 12] U fun e w'=>e= .returned (.int .i64 K)/\U=w'):=fun U=>(pick_calls mk 12 hm1 (by omega) (by omega) U).mono fun e w' q=>⟨by rw[q.1,hK],q.2.symm⟩
 have HBG:=hid_of bG
 have HBM:=hid_of bM
 have HBV:=hid_of hbV
 have hway:(s.way.length=0/\placeS s mi=0)\/(0 < s.way.length/\placeS s mi=pickS mi s.way.length):=by
  unfold placeS
  cases hy:s.way with
  |nil=>exact .inl ⟨rfl,rfl⟩
  |cons a l=>exact .inr ⟨by simp,by simp⟩
 obtain⟨len,hlen⟩:∃len,s.way.length=len:=⟨_,rfl⟩
 obtain⟨I,hI⟩:∃I,placeS s mi=I:=⟨_,rfl⟩
 rw[hlen]at HMS h60
 rw[hlen,hI]at hway
 have r8:=pickS_range mv 2 (by omega)
 have e8:pickS mv 2=1:=by dsimp only at h8;omega
 have HP8:Hid (∀U,Calls Tryz.prog 34 #[.int .i64 mv,.int .i64 2] U fun e w'=>e= .returned (.int .i64 1)/\U=w'):=fun U=>(pick_calls mv 2 hm3 (by omega) (by omega) U).mono fun e w' q=>⟨by rw[q.1,e8],q.2.symm⟩
 have hmv:moveS s ⟨mk,mw,mv,mi⟩=twiceS s I:=by
  unfold moveS
  dsimp only
  rw[hn,hK]
  rw[if_neg (by omega),if_neg (by omega),if_neg (by omega),if_pos hc,if_neg h8,hI]
 have HX:Hid (∀U,Below w.heap.size w U->Calls Tryz.prog 59 #[.pointer (some ⟨B,0,none⟩),.int .i64 I] U (MoveGives (fun b=>own b=2/\b < w.heap.size) w B (moveS s ⟨mk,mw,mv,mi⟩))):=fun U hU=>by
  rw[hmv]
  exact gives_later hU (H.twice _ B N s I U (hrun.later hU) hW hN)
 have g0:V.cell? ⟨G,0,none⟩=some (.pointer (some ⟨B,0,none⟩)):=bG.cell (o:=0) rfl
 have g1:V.cell? ⟨G,1,none⟩=some (.int .i64 n):=by rw[<-hn];exact bG.cell (o:=1) rfl
 have m1:V.cell? ⟨w.heap.size,1,none⟩=some (.int .i64 mw):=bM.cell (o:=1) rfl
 have hwy:∃hb:Bool,decide (0 < (len:Int))=hb/\(hb=true->Hid (∀U,Calls Tryz.prog 34 #[.int .i64 mi,.int .i64 len] U fun e w'=>e= .returned (.int .i64 I)/\U=w'))/\(hb=false->I=0):=by
  rcases hway with⟨h0,hI0⟩|⟨h0,hI0⟩
  ·exact⟨false,by rw[h0];rfl,(fun q=>by cases q),fun _=>hI0⟩
  ·exact⟨true,decide_eq_true (by omega),fun _=>fun U=>(pick_calls mi len hm4 (by omega) (by omega) U).mono fun e w' q=>⟨by rw[q.1,hI0],q.2.symm⟩,fun q=>by cases q⟩
 clear bG bM hbV h hrun hmv
 generalize moveS s ⟨mk,mw,mv,mi⟩=r at *
 generalize s.way.flatMap msgEnc=cs at *
 clear hWv hK hn hlen hI hway
 obtain⟨hb,hd,hp1,hp2⟩:=hwy
 have hq1:hb=true->(0:Int) < (len:Int):=fun h=>of_decide_eq_true (hd.trans h)
 have hq2:hb=true->0 < len:=fun h=>by have:=hq1 h;omega
 have hq3:hb=false->len=0:=fun h=>by have:=of_decide_eq_false (hd.trans h);omega
 have HPA:Hid (∀U c n v,(c=mk/\n=12/\v=K)\/(hb=true/\c=mi/\n=(len:Int)/\v=I)\/(c=mv/\n=2/\v=1)->Calls Tryz.prog 34 #[.int .i64 c,.int .i64 n] U fun e w'=>e= .returned (.int .i64 v)/\U=w'):=fun U c n v h=>by
  rcases h with⟨rfl,rfl,rfl⟩|⟨h1,rfl,rfl,rfl⟩|⟨rfl,rfl,rfl⟩
  ·exact HPK.out U
  ·exact(hp1 h1).out U
  ·exact HP8.out U
 clear HPK
 subst hc
 clear h8 e8 r8 HP8
 all_goals
  cases hb
  all_goals
   (try (obtain rfl:=hp2 rfl))
   (try have q1:=hq1 rfl)
   (try have q2:=hq2 rfl)
   (try (obtain rfl:=hq3 rfl))
   clear hq1 hq2 hq3
   clear hp1 hp2
   go_enter Tryz.func25,Tryz.ntmps25
   go_upto_region 1 with fail
   go_upto_region 4 with(first
    |(go_at_call 34;refine(HP1.out _).mono ?_;rintro e w1 ⟨rfl,rfl⟩)
    |(go_at_call 56;refine HMS.out.mono ?_;rintro e w2 ⟨v2,rfl,hv2,hb2⟩
      obtain⟨va,vc,rfl⟩:=row_form hv2
      have HB2:=hid_of hb2
      clear hv2))
   have s2:=HB2.out.size
   have HBW:Hid (Below w.heap.size w w2):=HBV.out.trans (HB2.out.mono HBV.out.size)
   have g0':w2.cell? ⟨G,0,none⟩=some (.pointer (some ⟨B,0,none⟩)):=(HBG.out.below HB2.out (by omega)).cell (o:=0) rfl
   have m0':w2.cell? ⟨w.heap.size,0,none⟩=some (.int .i64 mk):=(HBM.out.below HB2.out (by omega)).cell (o:=0) rfl
   have m2':w2.cell? ⟨w.heap.size,2,none⟩=some (.int .i64 mv):=(HBM.out.below HB2.out (by omega)).cell (o:=2) rfl
   have m3':w2.cell? ⟨w.heap.size,3,none⟩=some (.int .i64 mi):=(HBM.out.below HB2.out (by omega)).cell (o:=3) rfl
   clear g0 g1 m1 hV HBG HBM
   go_wp2_with (first
    |(go_at_call 34;refine(HPA.out _ _ _ _ (by first|exact .inl ⟨rfl,rfl,rfl⟩|exact .inr (.inl ⟨rfl,rfl,rfl,rfl⟩)|exact .inr ⟨rfl,rfl,rfl,rfl⟩|exact .inr ⟨trivial,rfl,rfl,rfl⟩|exact .inr (.inl ⟨trivial,rfl,rfl,rfl⟩)|exact .inr (.inr ⟨rfl,rfl,rfl⟩))).mono ?_;rintro e w3 ⟨rfl,rfl⟩)
    |(go_at_call 59;refine(HX.out _ HBW.out).mono ?_;rintro e w9 ⟨v9,rfl,rfl,hr9⟩;have HR9:=hid_of hr9;clear hr9))
   go_ret
   exact⟨_,rfl,rfl,HR9.out⟩
end Go.Proofs.YtfanaanofjhlkaaGreatDoor
