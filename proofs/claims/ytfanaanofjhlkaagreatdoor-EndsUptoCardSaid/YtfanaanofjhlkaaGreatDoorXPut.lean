import Derived.Test.YtfanaanofjhlkaaGreatDoorStillB
import Derived.Test.YtfanaanofjhlkaaGreatDoorRefSteal
namespace Go.Proofs.YtfanaanofjhlkaaGreatDoor
open Go Go.RowKit
set_option maxHeartbeats 4000000 in
set_option maxRecDepth 100000 in
theorem put_x(m:MsgS)(b:Nat){part:Nat->Nat}{w:World}{B M:Nat}{s:RunS}{kv wv yv:Value}{xs:List XW}(h:XAtO part w B s kv wv yv M xs)(hn:s.way.length<=1000)(hm:BoxAt w b 124 (msgCells m)) :
  Calls Tryz.prog 153 #[.pointer (some ⟨B,5,none⟩),.slice (some ⟨b,0,none⟩) 1 1] w fun e w'=>∃v,e= .returned v/\(v= .tuple #[]/\∃part' yv',XAtO part' w' B (wayS s m) kv wv yv' M xs/\XMoved part part' w w'/\Kept (fun g=>g=B\/part g=2) w w'):=by
 obtain⟨iM,hiM,hzM0,hzM1,hzM2⟩:=info_parts infoMessage
 obtain⟨ya,yc,hyf⟩:=row_form h.yrow.1
 subst hyf
 obtain⟨Z,hZ⟩:∃Z,w.alloc (Obj.cells (msgCells m) 124)=Z:=⟨_,rfl⟩
 have hbZ:Below w.heap.size w Z:=by rw[<-hZ];exact(Below.refl _ _).alloc (Nat.le_refl _) _
 have bM:BoxAt Z w.heap.size 124 (msgCells m):=by rw[<-hZ];exact BoxAt.new w _ _
 have SZ:Hid (Z.heap.size=w.heap.size+1):=by show _=_;rw[<-hZ];simp
 have bR:=h.box.below hbZ h.box.lt
 have HH:=hid_of h
 have HRY:=hid_of (row_later h.yrow.1 hbZ)
 have HBZ:=hid_of hbZ
 have HBR:=hid_of bR
 have HBM:=hid_of bM
 have hbl:=h.box.lt
 have hbz:B < Z.heap.size:=bR.lt
 have HNE:Hid ((Value.slice ya s.way.length yc).ownBlock≠some B):=row_ne h.yrow.1 h.box (by decide)
 obtain⟨c0,c1,c2,c3,c4,c5,c6,c7,c8,c9,c10,c11,c12,c13,c14⟩:=cells15 hm
 clear bM bR hbZ h hm
 go_enter Tryz.func153,Tryz.ntmps153
 go_wp2_with fail
 go_loopw [8] (fun iv wr=>(iv= .int .i64 0/\w=wr)\/(iv= .int .i64 1/\∃part' yv',XAtO part' wr B (wayS s m) kv wv yv' M xs/\XMoved part part' w wr/\Kept (fun g=>g=B\/part g=2) w wr)) (fun iv _=>1 - (intOf iv).toNat)
 case atStart=>exact .inl ⟨rfl,rfl⟩
 case round=>
  rename World=>wr
  rcases hrel with⟨rfl,rfl⟩|⟨rfl,h1⟩
  ·go_upto_region 3 with fail
   have b4:=HBR.out.cell (o:=5) rfl
   have f4:=HBR.out.frozen 5
   clear hZ
   by_cases hlt:s.way.length < 60
   ·have HS:Hid (wayS s m={s with way:=s.way++ [m]}):=by show _=_;simp[wayS,hlt]
    have l1:(s.way.length:Int) < 60:=by omega
    obtain⟨m0,m1,m2,m3,m4,m5,m6,m7,m8,m9,m10,m11,m12,m13,m14⟩:=cells15 HBM.out
    clear c0 c1 c2 c3 c4 c5 c6 c7 c8 c9 c10 c11 c12 c13 c14
    go_upto_region 4 with fail
    go_region_law (refine step_append_lies _ (by rfl) _ _ _ (by rfl) 0 124 iM _ 15 128 Tryz.underlying97 hiM hzM0 hzM1 hzM2 rfl (by omega) (.slice ya s.way.length yc) s.way.length (s.way.flatMap msgEnc) (by rfl) ((HRY.out.alloc _).drew) ⟨Z.heap.size,0,none⟩ 1 1 (msgEnc m) (by rfl) (by rfl) (World.news_of_block (cs:=msgCells m) (t:=124) (fr:=(0,0)) (heap_alloc_new Z _)) (by simp[msgEnc,Value.oneCell']) (by omega) (by unfold maxLen;omega) (by omega) (by simp) (Z.heap.size+1) (by simp) ?_;intro g cp w1 hown1 hgrow hat hlt1;have hbx:BoxAt w1 B 105 (xrunCells s kv wv (.slice ya s.way.length yc) M):=(hgrow.block B (by simp;have:=SZ.out;omega) (fun e=>HNE.out e.symm)).trans (HBR.out.alloc _);have c4:=hbx.cell (o:=5) rfl;have e4:=hbx.frozen 5)
    all_goals
     go_wp2_with fail
     go_roundw
     case rel=>
      refine .inr ⟨by go_num,?_⟩
      have kG:Kept (fun g=>g=B\/part g=2) w w1:=(((Kept.of_below HBZ.out (fun k h1 h2=>absurd h1 (by omega))).trans (Kept.alloc _ Z _)).drew).trans (Kept.grown hgrow (fun r e=> .inr (HH.out.yrow.2 r e)))
      have kS:Kept (·= B) w1 (w1.setCell ⟨B,5,none⟩ (.slice (some ⟨g,0,none⟩) (s.way.length+1) cp)):=(Kept.refl _ _).setCell (.inl (by rfl)) _
      rw[HS.out]
      obtain⟨h1,h2⟩:=HH.out.reway (way':=s.way++ [m]) (kG.trans (kS.mono (fun _ _ h=> .inl h))) (hbx.setAt 5 _) (by
       rw[List.flatMap_append,List.length_append,List.length_singleton]
       simpa using row_kept hown1 kS (fun g' e h=>by subst h;exact row_ne hown1 hbx (by decide) e) (Nat.le_refl _)) (fun g' e=>by
       obtain rfl:g=g':=by simpa[Value.ownBlock]using e
       rcases hat with h|h
       ·exact .inl ⟨HH.out.yrow.2 g h,(HH.out.yrow.1.lt g h).2⟩
       ·exact .inr (by have:=SZ.out;omega))
      exact⟨_,_,h1,h2,kG.trans (kS.mono (fun _ _ h=> .inl h))⟩
     case measure=>simp[intOf]
   ·have HS:Hid (wayS s m=s):=by show _=_;simp[wayS,hlt]
    have l1:¬(s.way.length:Int) < 60:=by omega
    clear c0 c1 c2 c3 c4 c5 c6 c7 c8 c9 c10 c11 c12 c13 c14
    go_wp2_with fail
    go_roundw
    case rel=>
     refine .inr ⟨by go_num,?_⟩
     obtain⟨h1,h2⟩:=HH.out.later HBZ.out
     rw[HS.out]
     exact⟨_,_,h1,h2,Kept.of_below HBZ.out (fun k h1 h2=>absurd h1 (by omega))⟩
    case measure=>simp[intOf]
  ·have H1:=hid_of h1
   clear h1
   go_wp2_with fail
   go_end0
   exact⟨_,rfl,rfl,H1.out⟩
theorem has_calls(ya:Option Addr)(n yc:Nat)(i:Int)(w:World):Calls Tryz.prog 155 #[.slice ya n yc,.int .i64 i] w fun e w'=>e= .returned (.bool (decide (0<=i/\i < (n:Int))))/\w=w':=by
 by_cases h0:0<=i
 ·obtain⟨b,hb⟩:∃b,decide (i < (n:Int))=b:=⟨_,rfl⟩
  have HR:Hid (decide (0<=i/\i < (n:Int))=b):=by show _=_;rw[<-hb];simp[h0]
  go_enter Tryz.func155,Tryz.ntmps155
  go_wp2_with fail
  go_ret
  rw[HR.out]
  exact⟨rfl,rfl⟩
 ·have HR:Hid (decide (0<=i/\i < (n:Int))=false):=by show _=_;simp[h0]
  have d0:decide (0<=i)=false:=decide_eq_false h0
  go_enter Tryz.func155,Tryz.ntmps155
  go_wp2_with fail
  go_ret
  refine⟨?_,rfl⟩
  first|rfl|(rw[HR.out];rfl)
end Go.Proofs.YtfanaanofjhlkaaGreatDoor
