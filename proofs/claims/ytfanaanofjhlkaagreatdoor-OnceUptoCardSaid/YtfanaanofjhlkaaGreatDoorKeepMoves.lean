import Derived.Test.YtfanaanofjhlkaaGreatDoorKeepMove
import Derived.Deep.RegionHeld3
import Derived.Deep.AppendLies
namespace Go.Proofs.YtfanaanofjhlkaaGreatDoor
open Go Go.RowKit
set_option maxHeartbeats 8000000 in
set_option maxRecDepth 100000 in
theorem kmove_steal(H:RunCalls){base:Nat}{own:Nat->Nat}{G B N:Nat}{s:RunS}{ka:Option Addr}{kc:Nat}{av dv:Value}{did:List ByteArray}{over done:Bool}(m:MoveS){w:World}(hm:MoveFits m)(h:GameAt base own w G B s ka kc av dv did over done)(hW:Whole N s)(hN:N+6<=80000000)(hc:3<=pickS m.k 12/\pickS m.k 12 < 5) :
  Calls Tryz.prog 25 #[.pointer (some ⟨G,0,none⟩),.agg (moveV m)] w (MoveGives (fun b=>own b=2/\b < w.heap.size) w B (moveS s m)):=by
 obtain⟨mk,mw,mv,mi⟩:=m
 obtain⟨hm1,hm2,hm3,hm4⟩:=hm
 dsimp only at hm1 hm2 hm3 hm4
 obtain⟨V,hV⟩:∃V,w.alloc (Obj.cells (moveV ⟨mk,mw,mv,mi⟩) 33)=V:=⟨_,rfl⟩
 have hbV:Below w.heap.size w V:=by rw[<-hV];exact(Below.refl _ _).alloc (Nat.le_refl _) _
 have bM:BoxAt V w.heap.size 33 (moveV ⟨mk,mw,mv,mi⟩):=by rw[<-hV];exact BoxAt.new w _ _
 have sV:V.heap.size=w.heap.size+1:=by rw[<-hV];simp
 have hGl:=h.box.lt
 have h2:=hW.fine.two
 have h5:=hW.fine.five
 have h60:=hW.fine.w60
 have bG:=h.box.below hbV hGl
 have hrun:XOK (fun b=>own b=2/\b < w.heap.size) w B s:=h.run.mono (fun b hb h=>⟨h,hb⟩)
 have HMS:=hid_of (H.messages _ B N s V (hrun.later hbV) hW)
 obtain⟨n,hn⟩:∃n,s.workers=n:=⟨_,rfl⟩
 obtain⟨W,hWv⟩:∃W,pickS mw n=W:=⟨_,rfl⟩
 obtain⟨K,hK⟩:∃K,pickS mk 12=K:=⟨_,rfl⟩
 have rW:=pickS_range mw n (by omega)
 have rK:=pickS_range mk 12 (by omega)
 rw[hWv]at rW
 rw[hK]at rK
 dsimp only at hc
 rw[hK]at hc
 have HP1:Hid (∀U,Calls Tryz.prog 34 #[.int .i64 mw,.int .i64 n] U fun e w'=>e= .returned (.int .i64 W)/\U=w'):=fun U=>(pick_calls mw n hm2 (by omega) (by omega) U).mono fun e w' q=>⟨by rw[q.1,hWv],q.2.symm⟩
 have HPK:Hid (∀U,Calls Tryz.prog 34 #[.int .i64 mk,.int .i64 12] U fun e w'=>e= .returned (.int .i64 K)/\U=w'):=fun U=>(pick_calls mk 12 hm1 (by omega) (by omega) U).mono fun e w' q=>⟨by rw[q.1,hK],q.2.symm⟩
 have HBG:=hid_of bG
 have HBM:=hid_of bM
 have HBV:=hid_of hbV
 have hway:(s.way.length=0/\placeS s mi=0)\/(0 < s.way.length/\placeS s mi=pickS mi s.way.length):=by
  unfold placeS
  cases hy:s.way with
  |nil=>exact .inl ⟨rfl,rfl⟩
  |cons a l=>exact .inr ⟨by simp,by simp⟩
 obtain⟨len,hlen⟩:∃len,s.way.length=len:=⟨_,rfl⟩
 obtain⟨I,hI⟩:∃I,placeS s mi=I:=⟨_,rfl⟩
 rw[hlen]at HMS h60
 rw[hlen,hI]at hway
 obtain⟨X,hX⟩:∃X,pickS mv (n - 1)=X:=⟨_,rfl⟩
 have rX:=pickS_range mv (n - 1) (by omega)
 rw[hX]at rX
 have HP9:Hid (∀U,Calls Tryz.prog 34 #[.int .i64 mv,.int .i64 (n - 1)] U fun e w'=>e= .returned (.int .i64 X)/\U=w'):=fun U=>(pick_calls mv (n - 1) hm3 (by omega) (by omega) U).mono fun e w' q=>⟨by rw[q.1,hX],q.2.symm⟩
 obtain⟨Y,hY⟩:∃Y,(W+1+X) % n=Y:=⟨_,rfl⟩
 have eY:(W+1+X).tmod n=Y:=by rw[<-hY];exact Int.tmod_eq_emod_of_nonneg (by omega)
 have a1:IntKind.i64.wrap (W+1)=W+1:=IntWalk.i64_in _ (by omega)
 have a2:IntKind.i64.wrap (W+1+X)=W+1+X:=IntWalk.i64_in _ (by omega)
 have a3:IntKind.i64.wrap (n - 1)=n - 1:=IntWalk.i64_in _ (by omega)
 have a4:(n==0)=false:=by rw[beq_eq_false_iff_ne];omega
 have a6:¬n=0:=by omega
 have a7:n≠0:=by omega
 have a8:(n== -1)=false:=by rw[beq_eq_false_iff_ne];omega
 have a9:¬n= -1:=by omega
 have rY:0<=Y/\Y < n:=by rw[<-hY];exact⟨Int.emod_nonneg _ (by omega),Int.emod_lt_of_pos _ (by omega)⟩
 have a5:IntKind.i64.wrap Y=Y:=IntWalk.i64_in _ (by omega)
 have hGw:own G≠2:=by rw[h.gown];omega
 have hmv:moveS s ⟨mk,mw,mv,mi⟩=stealS s W Y:=by
  unfold moveS
  dsimp only
  rw[hn,hK]
  rw[if_neg (by omega),if_pos hc.2,hWv,hX,hY]
 have HX:Hid (∀U,Below w.heap.size w U->Calls Tryz.prog 57 #[.pointer (some ⟨B,0,none⟩),.int .i64 W,.int .i64 Y] U (MoveGives (fun b=>own b=2/\b < w.heap.size) w B (moveS s ⟨mk,mw,mv,mi⟩))):=fun U hU=>by
  rw[hmv]
  exact gives_later hU (H.steal _ B N s W Y U (hrun.later hU) hW hN)
 have HX9:Hid (∀U,Below w.heap.size w U->w.heap.size < U.heap.size->U.cell? ⟨G,0,none⟩=some (.pointer (some ⟨B,0,none⟩))->U.cell? ⟨w.heap.size,2,none⟩=some (.int .i64 mv)->Calls Tryz.prog 57 #[.pointer (some ⟨B,0,none⟩),.int .i64 W,.int .i64 Y] U fun e w'=>∃v,e= .returned v/\(v= .int .i64 (moveS s ⟨mk,mw,mv,mi⟩).2/\(XOK (fun b=>(own b=2/\b < w.heap.size)\/w.heap.size<=b) w' B (moveS s ⟨mk,mw,mv,mi⟩).1/\Kept (fun b=>own b=2/\b < w.heap.size) w w')/\w'.cell? ⟨G,0,none⟩=some (.pointer (some ⟨B,0,none⟩))/\w'.cell? ⟨w.heap.size,2,none⟩=some (.int .i64 mv))):=fun U hU hs q1 q2=>by
  rw[hmv]
  refine(H.steal (fun b=>own b=2/\b < w.heap.size) B N s W Y U (hrun.later hU) hW hN).mono ?_
  rintro e w' ⟨rfl,hx,hk⟩
  refine⟨_,rfl,rfl,⟨hx.mono (fun b _ hb=> ?_),(Kept.of_below hU (fun b h1 h2=>absurd h1 (by omega))).trans hk⟩,(hk.cell (p:=⟨G,0,none⟩) (by show G < U.heap.size;have:=hU.size;omega) (fun q=>hGw q.1)).trans q1,(hk.cell (p:=⟨w.heap.size,2,none⟩) hs (fun q=>absurd q.2 (by show¬w.heap.size < w.heap.size;omega))).trans q2⟩
  rcases hb with hb|hb
  ·exact .inl hb
  ·exact .inr (by have:=hU.size;omega)
 have g0:V.cell? ⟨G,0,none⟩=some (.pointer (some ⟨B,0,none⟩)):=bG.cell (o:=0) rfl
 have g1:V.cell? ⟨G,1,none⟩=some (.int .i64 n):=by rw[<-hn];exact bG.cell (o:=1) rfl
 have m1:V.cell? ⟨w.heap.size,1,none⟩=some (.int .i64 mw):=bM.cell (o:=1) rfl
 have hwy:∃hb:Bool,decide (0 < (len:Int))=hb/\(hb=true->Hid (∀U,Calls Tryz.prog 34 #[.int .i64 mi,.int .i64 len] U fun e w'=>e= .returned (.int .i64 I)/\U=w'))/\(hb=false->I=0):=by
  rcases hway with⟨h0,hI0⟩|⟨h0,hI0⟩
  ·exact⟨false,by rw[h0];rfl,(fun q=>by cases q),fun _=>hI0⟩
  ·exact⟨true,decide_eq_true (by omega),fun _=>fun U=>(pick_calls mi len hm4 (by omega) (by omega) U).mono fun e w' q=>⟨by rw[q.1,hI0],q.2.symm⟩,fun q=>by cases q⟩
 clear bG bM hbV h hrun hmv
 generalize moveS s ⟨mk,mw,mv,mi⟩=r at *
 generalize s.way.flatMap msgEnc=cs at *
 clear hWv hK hn hlen hI hway
 obtain⟨hb,hd,hp1,hp2⟩:=hwy
 have hq1:hb=true->(0:Int) < (len:Int):=fun h=>of_decide_eq_true (hd.trans h)
 have hq2:hb=true->0 < len:=fun h=>by have:=hq1 h;omega
 have hq3:hb=false->len=0:=fun h=>by have:=of_decide_eq_false (hd.trans h);omega
 have HPA:Hid (∀U c n v,(c=mk/\n=12/\v=K)\/(hb=true/\c=mi/\n=(len:Int)/\v=I)->Calls Tryz.prog 34 #[.int .i64 c,.int .i64 n] U fun e w'=>e= .returned (.int .i64 v)/\U=w'):=fun U c n v h=>by
  rcases h with⟨rfl,rfl,rfl⟩|⟨h1,rfl,rfl,rfl⟩
  ·exact HPK.out U
  ·exact(hp1 h1).out U
 clear HPK
 have hKs:K=3\/K=4:=by omega
 clear hX hY
 rcases hKs with rfl|rfl
 all_goals
  cases hb
  all_goals
   (try (obtain rfl:=hp2 rfl))
   (try have q1:=hq1 rfl)
   (try have q2:=hq2 rfl)
   (try (obtain rfl:=hq3 rfl))
   clear hq1 hq2 hq3
   clear hp1 hp2
   go_enter Tryz.func25,Tryz.ntmps25
   go_upto_region 1 with fail
   go_upto_region 4 with(first
    |(go_at_call 34;refine(HP1.out _).mono ?_;rintro e w1 ⟨rfl,rfl⟩)
    |(go_at_call 56;refine HMS.out.mono ?_;rintro e w2 ⟨v2,rfl,hv2,hb2⟩
      obtain⟨va,vc,rfl⟩:=row_form hv2
      have HB2:=hid_of hb2
      clear hv2))
   have s2:=HB2.out.size
   have HBW:Hid (Below w.heap.size w w2):=HBV.out.trans (HB2.out.mono HBV.out.size)
   have g0':w2.cell? ⟨G,0,none⟩=some (.pointer (some ⟨B,0,none⟩)):=(HBG.out.below HB2.out (by omega)).cell (o:=0) rfl
   have m0':w2.cell? ⟨w.heap.size,0,none⟩=some (.int .i64 mk):=(HBM.out.below HB2.out (by omega)).cell (o:=0) rfl
   have m2':w2.cell? ⟨w.heap.size,2,none⟩=some (.int .i64 mv):=(HBM.out.below HB2.out (by omega)).cell (o:=2) rfl
   have m3':w2.cell? ⟨w.heap.size,3,none⟩=some (.int .i64 mi):=(HBM.out.below HB2.out (by omega)).cell (o:=3) rfl
   clear g0 g1 m1 hV HBG HBM
   have hs2:w.heap.size < w2.heap.size:=by omega
   have HST:Hid (∀U,Below w2.heap.size w2 U->U.cell? ⟨G,0,none⟩=some (.pointer (some ⟨B,0,none⟩))/\U.cell? ⟨w.heap.size,2,none⟩=some (.int .i64 mv)):=fun U hU=>⟨(hU.cell (p:=⟨G,0,none⟩) (by show G < w2.heap.size;omega)).trans g0',(hU.cell (p:=⟨w.heap.size,2,none⟩) (by show w.heap.size < w2.heap.size;omega)).trans m2'⟩
   go_upto_region 14 with(go_at_call 34;refine(HPA.out _ _ _ _ (by first|exact .inl ⟨rfl,rfl,rfl⟩|exact .inr (.inl ⟨rfl,rfl,rfl,rfl⟩)|exact .inr ⟨rfl,rfl,rfl,rfl⟩|exact .inr ⟨trivial,rfl,rfl,rfl⟩)).mono ?_;rintro e w3 ⟨rfl,rfl⟩)
   go_region_held3 (fun U=>U.cell? ⟨G,0,none⟩=some (.pointer (some ⟨B,0,none⟩))/\U.cell? ⟨w.heap.size,2,none⟩=some (.int .i64 mv))
    (first|assumption|(exact HST.out _ (Below.refl _ _))|(exact HST.out _ (Below.refl _ _).drew))
    (first
    |(go_at_call 34;refine(HP9.out _).mono ?_;rintro e w3 ⟨rfl,rfl⟩)
    |(go_at_call 57;refine(HX9.out _ (by first|exact HBW.out|exact HBW.out.drew) (by exact hs2) (by first|exact g0'|assumption) (by first|exact m2'|assumption)).mono ?_;rintro e w9 ⟨v9,rfl,rfl,hr9,hst9⟩))
   all_goals
    go_wp2_with fail
    go_ret
    exact⟨_,rfl,rfl,hr9⟩
theorem kmove_all(H:RunCalls){base:Nat}{own:Nat->Nat}{G B N:Nat}{s:RunS}{ka:Option Addr}{kc:Nat}{av dv:Value}{did:List ByteArray}{over done:Bool}(m:MoveS){w:World}(hm:MoveFits m)(h:GameAt base own w G B s ka kc av dv did over done)(hW:Whole N s)(hN:N+6<=80000000) :
  Calls Tryz.prog 25 #[.pointer (some ⟨G,0,none⟩),.agg (moveV m)] w (MoveGives (fun b=>own b=2/\b < w.heap.size) w B (moveS s m)):=by
 have r:=pickS_range m.k 12 (by omega)
 by_cases h3:pickS m.k 12 < 3
 ·exact kmove_work H m hm h hW hN h3
 ·by_cases h5:pickS m.k 12 < 5
  ·exact kmove_steal H m hm h hW hN ⟨by omega,h5⟩
  ·by_cases h8:pickS m.k 12 < 8
   ·exact kmove_deliver H m hm h hW hN ⟨by omega,h8⟩
   ·by_cases h9:pickS m.k 12=8
    ·by_cases hv:pickS m.v 2=0
     ·exact kmove_drop H m hm h hW hN h9 hv
     ·exact kmove_twice H m hm h hW hN h9 hv
    ·by_cases ht:pickS m.k 12=9
     ·exact kmove_tick H m hm h hW hN ht
     ·by_cases hp:pickS m.k 12=10
      ·exact kmove_pass H m hm h hW hN hp
      ·exact kmove_check H m hm h hW hN (by omega)
theorem GameAt.over{base:Nat}{own:Nat->Nat}{W:World}{G B:Nat}{s:RunS}{ka:Option Addr}{kc:Nat}{av dv:Value}{did:List ByteArray}{over done:Bool}(h:GameAt base own W G B s ka kc av dv did over done)(hbase:base<=W.heap.size):∃own',GameAt base own' (W.setCell ⟨G,9,none⟩ (.bool true)) G B s ka kc av dv did true done/\Below base W (W.setCell ⟨G,9,none⟩ (.bool true)):=by
 have k:Kept (fun b=>own b=1\/own b=5) W (W.setCell ⟨G,9,none⟩ (.bool true)):=(Kept.refl _ W).setCell (.inl (.inl h.gown)) _
 have hg:=h.new G (by rw[h.gown];omega)
 refine⟨_,h.wrote hbase k (h.box.setAt 9 _) (row_kept h.did ((Kept.refl (·= G) W).setCell (.inl (by rfl)) _) (fun g e q=>by have:=h.down g e;have:=h.gown;rw[q]at *;omega) (Nat.le_refl _)) (fun g e=> .inl (h.down g e)),(Below.refl _ _).setCell (p:=⟨G,9,none⟩) hg _⟩
theorem GameAt.told{base:Nat}{own:Nat->Nat}{W:World}{G B:Nat}{s:RunS}{ka:Option Addr}{kc:Nat}{av dv:Value}{did:List ByteArray}{over done:Bool}(h:GameAt base own W G B s ka kc av dv did over done)(hbase:base<=W.heap.size)(d:Bool):∃own',GameAt base own' (W.setCell ⟨G,10,none⟩ (.bool d)) G B s ka kc av dv did over d/\Below base W (W.setCell ⟨G,10,none⟩ (.bool d)):=by
 have k:Kept (fun b=>own b=1\/own b=5) W (W.setCell ⟨G,10,none⟩ (.bool d)):=(Kept.refl _ W).setCell (.inl (.inl h.gown)) _
 have hg:=h.new G (by rw[h.gown];omega)
 refine⟨_,h.wrote hbase k (h.box.setAt 10 _) (row_kept h.did ((Kept.refl (·= G) W).setCell (.inl (by rfl)) _) (fun g e q=>by have:=h.down g e;have:=h.gown;rw[q]at *;omega) (Nat.le_refl _)) (fun g e=> .inl (h.down g e)),(Below.refl _ _).setCell (p:=⟨G,10,none⟩) hg _⟩
theorem GameAt.added{base:Nat}{own:Nat->Nat}{W w1 w2:World}{G B:Nat}{s:RunS}{ka:Option Addr}{kc:Nat}{av dv:Value}{did:List ByteArray}{over done:Bool}(h:GameAt base own W G B s ka kc av dv did over done)(hbase:base<=W.heap.size)(id:ByteArray)(hb:Below W.heap.size W w1)(hk:Kept (fun b=>dv.ownBlock=some b) w1 w2){g c:Nat}(hr:w2.ownsRow base 9 1 (.slice (some ⟨g,0,none⟩) (did.length+1) c) (did.length+1) (did.map Value.string++ [.string id]))(hg:dv.ownBlock=some g\/g=w1.heap.size):∃own' dv',GameAt base own' (w2.setCell ⟨G,8,none⟩ (.slice (some ⟨g,0,none⟩) (did.length+1) c)) G B s ka kc av dv' (did++ [id]) over done/\Below base W (w2.setCell ⟨G,8,none⟩ (.slice (some ⟨g,0,none⟩) (did.length+1) c)):=by
 have h1:=h.later hb
 obtain⟨own1,ho1⟩:∃own1,(fun g=>if g < W.heap.size then own g else 0)=own1:=⟨_,rfl⟩
 rw[ho1]at h1
 have s1:=hb.size
 have k2:Kept (fun b=>own1 b=1\/own1 b=5) w1 w2:=hk.mono (fun b _ e=> .inr (h1.down b e))
 have k3:Kept (fun b=>own1 b=1\/own1 b=5) w1 (w2.setCell ⟨G,8,none⟩ (.slice (some ⟨g,0,none⟩) (did.length+1) c)):=k2.setCell (.inl (.inl h1.gown)) _
 have hG:=h1.new G (by rw[h1.gown];omega)
 have hgG:g≠G:=by
  rintro rfl
  rcases hg with e|e
  ·have:=h1.down _ e
   have:=h1.gown
   omega
  ·have:=h1.box.lt
   omega
 have bx:=h1.box.kept hk (fun e=>by have:=h1.down _ e;have:=h1.gown;omega)
 have e1:(did++ [id]).length=did.length+1:=by simp
 have e2:(did++ [id]).map Value.string=did.map Value.string++ [.string id]:=by simp
 refine⟨_,_,h1.wrote (by omega) k3 (bx.setAt 8 _) ?_ (fun b e=> ?_),(hb.mono hbase).trans (k3.below (by omega) (fun b e=>h1.new b (by omega)))⟩
 ·rw[e1,e2]
  exact row_kept hr ((Kept.refl (·= G) w2).setCell (.inl (by rfl)) _) (fun b e q=>by simp[Value.ownBlock]at e;omega) (Nat.le_refl _)
 ·simp[Value.ownBlock]at e
  subst e
  rcases hg with e|e
  ·exact .inl (h1.down _ e)
  ·exact .inr (by omega)
def MovesGives(base:Nat)(w:World)(G B:Nat)(s:RunS)(ka:Option Addr)(kc:Nat)(av:Value)(did:List ByteArray)(over:Bool)(e:Ending)(w':World):Prop:=e= .returned (.tuple #[])/\(∃own' dv',GameAt base own' w' G B s ka kc av dv' did over s.done)/\Below base w w'
theorem infoStr:(Tryz.prog.info? 9).map (fun i=>(i.zero,i.size,i.bytes))=some (some (.string ⟨#[]⟩),1,16):=by kernel_rfl
set_option maxHeartbeats 4000000 in
set_option maxRecDepth 100000 in
theorem kmoves_calls(H:RunCalls){base:Nat}{own:Nat->Nat}{G B N:Nat}{s:RunS}{ka:Option Addr}{kc:Nat}{av dv:Value}{did:List ByteArray}{over done:Bool}(m:MoveS){w:World}(hm:MoveFits m)(h:GameAt base own w G B s ka kc av dv did over done)(hW:Whole N s)(hN:N+12<=80000000)(hp:Play did s)(hbase:base<=w.heap.size)(hdl:did.length<=100000000) :
  Calls Tryz.prog 14 #[.pointer (some ⟨G,0,none⟩),.agg (moveV m)] w (MovesGives base w G B (moveS s m).1 ka kc av (didS s m did) (over||decide ((moveS s m).2=6))):=by
 obtain⟨iS,hiS,hzS0,hzS1,hzS2⟩:=info_parts infoStr
 have hW':=hW.move (by omega) m
 have hp':=hp.move hW.fine (by omega) m
 have hst:=Stays.move s m
 have h2:=hW.fine.two
 have h5:=hW.fine.five
 have hm1:=hm.1
 have hm2:=hm.2.1
 obtain⟨n,hn⟩:∃n,s.workers=n:=⟨_,rfl⟩
 obtain⟨W,hWv⟩:∃W,pickS m.w n=W:=⟨_,rfl⟩
 obtain⟨K,hK⟩:∃K,pickS m.k 12=K:=⟨_,rfl⟩
 obtain⟨er,her⟩:∃er,(moveS s m).2=er:=⟨_,rfl⟩
 obtain⟨s',hs'⟩:∃s',(moveS s m).1=s':=⟨_,rfl⟩
 have HS':=hid_of hs'
 have HER:=hid_of her
 obtain⟨V,hV⟩:∃V,w.alloc (Obj.cells (moveV m) 33)=V:=⟨_,rfl⟩
 have hbV:Below w.heap.size w V:=by rw[<-hV];exact(Below.refl _ _).alloc (Nat.le_refl _) _
 have bM:BoxAt V w.heap.size 33 (moveV m):=by rw[<-hV];exact BoxAt.new w _ _
 have sV:V.heap.size=w.heap.size+1:=by rw[<-hV];simp
 have hV1:=h.later hbV
 obtain⟨own1,ho1⟩:∃own1,(fun g=>if g < w.heap.size then own g else 0)=own1:=⟨_,rfl⟩
 rw[ho1]at hV1
 obtain⟨yo,hyo⟩:∃yo,youngS s W=yo:=⟨_,rfl⟩
 have HDID:Hid (didS s m did=if K < 3/\er=0 then did++yo.toList else did):=by
  show _=_
  unfold didS
  rw[hK,her,hn,hWv,hyo]
 obtain⟨did',hdd⟩:∃did',didS s m did=did':=⟨_,rfl⟩
 rw[hs']at hW' hp' hst
 rw[hdd]at hp' HDID
 rw[her,hs',hdd]
 have HW':=hid_of hW'
 have HP':=hid_of hp'
 have HST:=hid_of hst
 clear hW' hp' hst hs' her hdd
 have HYG:Hid (∀U,(U=V\/U=V.drew)->Calls Tryz.prog 36 #[.pointer (some ⟨G,0,none⟩),.int .i64 W] U fun e w'=>∃v,e= .returned v/\(v= .tuple #[.string (yo.getD ⟨#[]⟩),.bool yo.isSome]/\Below V.heap.size V w')):=fun U hU=>by
  have gU:Below V.heap.size V U:=by
   rcases hU with rfl|rfl
   ·exact Below.refl _ _
   ·exact(Below.refl _ _).drew
  refine(young_calls H W (hV1.later gU) hW).mono ?_
  rintro e w' ⟨v,rfl,rfl,hb⟩
  exact⟨_,rfl,by rw[hyo],gU.trans (hb.mono gU.size)⟩
 have HPW:Hid (∀U,(U=V\/U=V.drew)->Calls Tryz.prog 34 #[.int .i64 m.w,.int .i64 n] U fun e w'=>∃v,e= .returned v/\(v= .int .i64 W/\U=w')):=fun U _=>(pick_calls m.w n hm2 (by omega) (by omega) U).mono fun e w' q=>⟨_,q.1,by rw[hWv],q.2.symm⟩
 have HPK:Hid (∀U,Calls Tryz.prog 34 #[.int .i64 m.k,.int .i64 12] U fun e w'=>e= .returned (.int .i64 K)/\U=w'):=fun U=>(pick_calls m.k 12 hm1 (by omega) (by omega) U).mono fun e w' q=>⟨by rw[q.1,hK],q.2.symm⟩
 have m0:V.cell? ⟨w.heap.size,0,none⟩=some (.int .i64 m.k):=bM.cell (o:=0) rfl
 have m1:V.cell? ⟨w.heap.size,1,none⟩=some (.int .i64 m.w):=bM.cell (o:=1) rfl
 have g1:V.cell? ⟨G,1,none⟩=some (.int .i64 n):=by rw[<-hn];exact hV1.box.cell (o:=1) rfl
 have HV1:=hid_of hV1
 have HBM:=hid_of bM
 have HBV:=hid_of hbV
 have HMF:=hid_of hm
 have HH:=hid_of h
 have HWh:=hid_of hW
 clear h hV1 bM hbV hm hm1 hm2
 go_enter Tryz.func14,Tryz.ntmps14
 go_upto_region 1 with fail
 try rw[hV]
 clear hV
 go_region_law (first
  |(refine step_call2 (by rfl) 34 _ _ _ (by rfl) (.int .i64 m.w) (.int .i64 n) (by rfl) (by rfl) (enters_of Tryz.func34 (by kernel_rfl) rfl) (HPW.out _ (by first|exact .inl rfl|exact .inr rfl)) ?_;rintro v8 w8 ⟨rfl,rfl⟩)
  |(refine step_call2 (by rfl) 36 _ _ _ (by rfl) (.pointer (some ⟨G,0,none⟩)) (.int .i64 W) (by rfl) (by rfl) (enters_of Tryz.func36 (by kernel_rfl) rfl) (HYG.out _ (by first|exact .inl rfl|exact .inr rfl)) ?_;rintro v9 w9 ⟨rfl,hb9⟩;have HB9:=hid_of hb9;clear hb9))
 all_goals
  have s9:=HB9.out.size
  have hne9:(fun g=>if g < V.heap.size then own1 g else 0) w.heap.size≠2:=by rw[<-ho1];simp
  have hG9:=HV1.out.later HB9.out
  obtain⟨own9,ho9⟩:∃own9,(fun g=>if g < V.heap.size then own1 g else 0)=own9:=⟨_,rfl⟩
  rw[ho9]at hne9 hG9
  have HMV:=hid_of (kmove_all H m HMF.out hG9 HWh.out (by omega))
  have HG9:=hid_of hG9
  have bM9:=HBM.out.below HB9.out (by omega)
  have n0:w9.cell? ⟨w.heap.size,0,none⟩=some (.int .i64 m.k):=bM9.cell (o:=0) rfl
  have n1:w9.cell? ⟨w.heap.size,1,none⟩=some (.int .i64 m.w):=bM9.cell (o:=1) rfl
  have n2:w9.cell? ⟨w.heap.size,2,none⟩=some (.int .i64 m.v):=bM9.cell (o:=2) rfl
  have n3:w9.cell? ⟨w.heap.size,3,none⟩=some (.int .i64 m.i):=bM9.cell (o:=3) rfl
  have HBM9:=hid_of bM9
  clear m0 m1 g1 hG9 bM9
  go_upto_region 3 with(go_at_call 25;refine HMV.out.mono ?_;rintro e w3 ⟨v3,rfl,hv3,hx3,hk3⟩;rw[HER.out]at hv3;rw[HS'.out]at hx3;subst hv3)
  have hb9:base<=w9.heap.size:=by omega
  have hG3:=HG9.out.ran hb9 (hk3.mono (fun b _ hb=>hb.1)) (hx3.mono (fun b _ hb=>by rcases hb with hb|hb;exact .inl hb.1;exact .inr hb)) HST.out
  have bM3:=HBM9.out.kept hk3 (fun q=>hne9 q.1)
  have k0:w3.cell? ⟨w.heap.size,0,none⟩=some (.int .i64 m.k):=bM3.cell (o:=0) rfl
  have hbl3:Below base w w3:=(HBV.out.mono hbase).trans ((HB9.out.mono (by omega)).trans (hk3.below hb9 (fun g q=>HG9.out.new g (by omega))))
  have s3:=hk3.size
  obtain⟨own3,ho3⟩:∃own3,(fun g=>if g < w9.heap.size then own9 g else 2)=own3:=⟨_,rfl⟩
  rw[ho3]at hG3
  have b3:base<=w3.heap.size:=by omega
  have HG3:=hid_of hG3
  have HBM3:=hid_of bM3
  have HBL3:=hid_of hbl3
  have hgl:=hG3.box.lt
  have HGW:Hid (G≠w.heap.size):=by have:=HH.out.box.lt;show _≠_;omega
  clear hG3 bM3 hbl3 hx3 hk3 HMV HG9 HBM9 HB9 n0 n1 n2 n3 ho3
  have g9:w3.cell? ⟨G,9,none⟩=some (.bool over):=HG3.out.box.cell (o:=9) rfl
  have z9:=HG3.out.box.frozen 9
  have hcase:er=6\/(er≠6/\¬(K < 3/\er=0/\yo.isSome=true))\/(er=0/\K < 3/\∃id,yo=some id):=by
   by_cases h6:er=6
   ·exact .inl h6
   ·by_cases hq:K < 3/\er=0/\yo.isSome=true
    ·obtain⟨q1,q2,q3⟩:=hq
     exact .inr (.inr ⟨q2,q1,Option.isSome_iff_exists.1 q3⟩)
    ·exact .inr (.inl ⟨h6,hq⟩)
  rcases hcase with h6|⟨h6,hno⟩|⟨h0,hk3,id,hid⟩
  ·subst h6
   obtain⟨own6,hG6,hb6⟩:=HG3.out.over b3
   have k6:(w3.setCell ⟨G,9,none⟩ (.bool true)).cell? ⟨w.heap.size,0,none⟩=some (.int .i64 m.k):=(HBM3.out.kept ((Kept.refl (·= G) w3).setCell (.inl (by rfl)) _) (fun q=>HGW.out q.symm)).cell (o:=0) rfl
   obtain⟨w6,hw6⟩:∃w6,w3.setCell ⟨G,9,none⟩ (.bool true)=w6:=⟨_,rfl⟩
   rw[hw6]at hG6 hb6 k6
   have hG6':GameAt base own6 w6 G B s' ka kc av dv did' (over||decide ((6:Int)=6)) done:=by
    rw[HDID.out,if_neg (by omega)]
    simpa using hG6
   have HG6:=hid_of hG6'
   have HB6:Hid (Below base w w6):=HBL3.out.trans hb6
   clear hG6 hb6 hG6'
   go_upto_region 5 with fail
   try rw[hw6]
   clear hw6 g9 z9 k0
   cases hb:decide (K < 3)
   all_goals
    go_upto_region 7 with(go_at_call 34;refine(HPK.out _).mono ?_;rintro e w' ⟨rfl,rfl⟩)
   all_goals
    have g0:w6.cell? ⟨G,0,none⟩=some (.pointer (some ⟨B,0,none⟩)):=HG6.out.box.cell (o:=0) rfl
    have b6:base<=w6.heap.size:=by have:=HB6.out.size;omega
    have HAN:=hid_of (H.announced _ B (N+6) _ s' w6 HG6.out.run HW'.out (by omega) HP'.out)
    go_upto_region 8 with(go_at_call 20;refine HAN.out.mono ?_;rintro e w7 ⟨v7,rfl,hv7,hb7⟩)
    have hG7:=HG6.out.later hb7
    have s7:=hb7.size
    have y10:w7.cell? ⟨G,10,none⟩=some (.bool done):=hG7.box.cell (o:=10) rfl
    have z10:=hG7.box.frozen 10
    obtain⟨own8,hG8,hb8⟩:=hG7.told (by omega) s'.done
    have HB8:=hid_of ((HB6.out.trans (hb7.mono b6)).trans hb8)
    have HG8:=hid_of hG8
    clear hG7 hG8 hb8 hv7 hb7 HAN HG6 HB6 g0
    go_wp2_with fail
    go_end0
    exact⟨rfl,⟨_,_,HG8.out⟩,HB8.out⟩
  ·have hG6':GameAt base own3 w3 G B s' ka kc av dv did' (over||decide (er=6)) done:=by
    have e1:(over||decide (er=6))=over:=by rw[decide_eq_false h6,Bool.or_false]
    have e2:did'=did:=by
     rw[HDID.out]
     by_cases hq:K < 3/\er=0
     ·rw[if_pos hq]
      cases hy:yo with
      |none=>simp
      |some id=>exact absurd ⟨hq.1,hq.2,by rw[hy];rfl⟩ hno
     ·rw[if_neg hq]
    rw[e1,e2]
    exact HG3.out
   have HG6:=hid_of hG6'
   have HB6:=hid_of HBL3.out
   have e6:(er==6)=false:=by rw[beq_eq_false_iff_ne];exact h6
   have hno':decide (K < 3)=true->(er==0)=true->yo.isSome=true->False:=fun q1 q2 q3=>hno ⟨of_decide_eq_true q1,by simpa using q2,q3⟩
   clear hG6' hno g9 z9
   obtain⟨w6,hw6⟩:∃w6,w3=w6:=⟨_,rfl⟩
   subst hw6
   cases hb1:decide (K < 3)
   ·clear hno'
    go_upto_region 7 with(go_at_call 34;refine(HPK.out _).mono ?_;rintro e w' ⟨rfl,rfl⟩)
    all_goals
     have g0:w3.cell? ⟨G,0,none⟩=some (.pointer (some ⟨B,0,none⟩)):=HG6.out.box.cell (o:=0) rfl
     have b6:base<=w3.heap.size:=by have:=HB6.out.size;omega
     have HAN:=hid_of (H.announced _ B (N+6) _ s' w3 HG6.out.run HW'.out (by omega) HP'.out)
     go_upto_region 8 with(go_at_call 20;refine HAN.out.mono ?_;rintro e w7 ⟨v7,rfl,hv7,hb7⟩)
     have hG7:=HG6.out.later hb7
     have s7:=hb7.size
     have y10:w7.cell? ⟨G,10,none⟩=some (.bool done):=hG7.box.cell (o:=10) rfl
     have z10:=hG7.box.frozen 10
     obtain⟨own8,hG8,hb8⟩:=hG7.told (by omega) s'.done
     have HB8:=hid_of ((HB6.out.trans (hb7.mono b6)).trans hb8)
     have HG8:=hid_of hG8
     clear hG7 hG8 hb8 hv7 hb7 HAN HG6 HB6 g0
     go_wp2_with fail
     go_end0
     exact⟨rfl,⟨_,_,HG8.out⟩,HB8.out⟩
   ·cases hb2:(er==0)
    ·clear hno'
     go_upto_region 7 with(go_at_call 34;refine(HPK.out _).mono ?_;rintro e w' ⟨rfl,rfl⟩)
     all_goals
      have g0:w3.cell? ⟨G,0,none⟩=some (.pointer (some ⟨B,0,none⟩)):=HG6.out.box.cell (o:=0) rfl
      have b6:base<=w3.heap.size:=by have:=HB6.out.size;omega
      have HAN:=hid_of (H.announced _ B (N+6) _ s' w3 HG6.out.run HW'.out (by omega) HP'.out)
      go_upto_region 8 with(go_at_call 20;refine HAN.out.mono ?_;rintro e w7 ⟨v7,rfl,hv7,hb7⟩)
      have hG7:=HG6.out.later hb7
      have s7:=hb7.size
      have y10:w7.cell? ⟨G,10,none⟩=some (.bool done):=hG7.box.cell (o:=10) rfl
      have z10:=hG7.box.frozen 10
      obtain⟨own8,hG8,hb8⟩:=hG7.told (by omega) s'.done
      have HB8:=hid_of ((HB6.out.trans (hb7.mono b6)).trans hb8)
      have HG8:=hid_of hG8
      clear hG7 hG8 hb8 hv7 hb7 HAN HG6 HB6 g0
      go_wp2_with fail
      go_end0
      exact⟨rfl,⟨_,_,HG8.out⟩,HB8.out⟩
    ·cases hb3:yo.isSome
     ·clear hno'
      go_upto_region 7 with(go_at_call 34;refine(HPK.out _).mono ?_;rintro e w' ⟨rfl,rfl⟩)
      all_goals
       have g0:w3.cell? ⟨G,0,none⟩=some (.pointer (some ⟨B,0,none⟩)):=HG6.out.box.cell (o:=0) rfl
       have b6:base<=w3.heap.size:=by have:=HB6.out.size;omega
       have HAN:=hid_of (H.announced _ B (N+6) _ s' w3 HG6.out.run HW'.out (by omega) HP'.out)
       go_upto_region 8 with(go_at_call 20;refine HAN.out.mono ?_;rintro e w7 ⟨v7,rfl,hv7,hb7⟩)
       have hG7:=HG6.out.later hb7
       have s7:=hb7.size
       have y10:w7.cell? ⟨G,10,none⟩=some (.bool done):=hG7.box.cell (o:=10) rfl
       have z10:=hG7.box.frozen 10
       obtain⟨own8,hG8,hb8⟩:=hG7.told (by omega) s'.done
       have HB8:=hid_of ((HB6.out.trans (hb7.mono b6)).trans hb8)
       have HG8:=hid_of hG8
       clear hG7 hG8 hb8 hv7 hb7 HAN HG6 HB6 g0
       go_wp2_with fail
       go_end0
       exact⟨rfl,⟨_,_,HG8.out⟩,HB8.out⟩
     ·exact(hno' hb1 hb2 hb3).elim
  ·subst h0 hid
   have hb1:decide (K < 3)=true:=decide_eq_true hk3
   obtain⟨da,dc,hdv⟩:=row_form HG3.out.did
   subst hdv
   have g8:w3.cell? ⟨G,8,none⟩=some (.slice da did.length dc):=HG3.out.box.cell (o:=8) rfl
   have HBA:Hid (Below w3.heap.size w3 (w3.alloc (Obj.cells #[.string id] 9))):=(Below.refl _ _).alloc (Nat.le_refl _) _
   have HR3:=hid_of (row_later HG3.out.did HBA.out)
   have HBASE:Hid (base<=(w3.alloc (Obj.cells #[.string id] 9)).heap.size):=by have:=HBA.out.size;show _<=_;omega
   clear g9 z9
   go_upto_region 6 with(go_at_call 34;refine(HPK.out _).mono ?_;rintro e w' ⟨rfl,rfl⟩)
   go_upto_region 7 with(at_builtin;refine wpList_append_lies _ rfl _ _ _ rfl base 9 iS _ 1 16 Tryz.underlying43 hiS hzS0 hzS1 hzS2 rfl (by omega) (.slice da did.length dc) did.length (did.map Value.string) rfl HR3.out ⟨w3.heap.size,0,none⟩ 1 1 [.string id] rfl rfl (World.news_of_block (cs:=#[.string id]) (t:=9) (fr:=(0,0)) (heap_alloc_new w3 _)) (by simp[Value.oneCell']) (by omega) (by unfold maxLen;omega) (by omega) HBASE.out (w3.heap.size+1) (by simp) ?_;intro g5 c5 w5 hown5 hgrow5 hat5 hg5;have hk5:=Kept.grown hgrow5 (X:=fun b=>(Value.slice da did.length dc).ownBlock=some b) (fun r e=>e);have bx5:=(HG3.out.box.below HBA.out hgl).kept hk5 (fun e=>by have:=HG3.out.down _ e;have:=HG3.out.gown;omega);have y8:=bx5.cell (o:=8) rfl;have z8:=bx5.frozen 8)
   obtain⟨own6,dv6,hG6,hb6⟩:=HG3.out.added b3 id HBA.out hk5 hown5 (by rcases hat5 with q|q;exact .inl q;exact .inr (by rw[q];simp))
   obtain⟨w6,hw6⟩:∃w6,w5.setCell ⟨G,8,none⟩ (.slice (some ⟨g5,0,none⟩) (did.length+1) c5)=w6:=⟨_,rfl⟩
   rw[hw6]at hG6 hb6
   have hG6':GameAt base own6 w6 G B s' ka kc av dv6 did' (over||decide ((0:Int)=6)) done:=by
    rw[HDID.out,if_pos ⟨hk3,by trivial⟩]
    simpa using hG6
   have HG6:=hid_of hG6'
   have HB6:Hid (Below base w w6):=HBL3.out.trans hb6
   clear hG6 hb6 hG6' hk5 bx5 y8 z8 hown5 hgrow5 hat5 hg5 g8 HR3 HBASE HBA
   try rw[hw6]
   clear hw6
   all_goals
    have g0:w6.cell? ⟨G,0,none⟩=some (.pointer (some ⟨B,0,none⟩)):=HG6.out.box.cell (o:=0) rfl
    have b6:base<=w6.heap.size:=by have:=HB6.out.size;omega
    have HAN:=hid_of (H.announced _ B (N+6) _ s' w6 HG6.out.run HW'.out (by omega) HP'.out)
    go_upto_region 8 with(go_at_call 20;refine HAN.out.mono ?_;rintro e w7 ⟨v7,rfl,hv7,hb7⟩)
    have hG7:=HG6.out.later hb7
    have s7:=hb7.size
    have y10:w7.cell? ⟨G,10,none⟩=some (.bool done):=hG7.box.cell (o:=10) rfl
    have z10:=hG7.box.frozen 10
    obtain⟨own8,hG8,hb8⟩:=hG7.told (by omega) s'.done
    have HB8:=hid_of ((HB6.out.trans (hb7.mono b6)).trans hb8)
    have HG8:=hid_of hG8
    clear hG7 hG8 hb8 hv7 hb7 HAN HG6 HB6 g0
    go_wp2_with fail
    go_end0
    exact⟨rfl,⟨_,_,HG8.out⟩,HB8.out⟩
end Go.Proofs.YtfanaanofjhlkaaGreatDoor
