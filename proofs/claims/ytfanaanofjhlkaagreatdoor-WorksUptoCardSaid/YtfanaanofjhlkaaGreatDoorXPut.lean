import Derived.Test.YtfanaanofjhlkaaGreatDoorXKnown
import Derived.Test.YtfanaanofjhlkaaGreatDoorRefPost
set_option maxHeartbeats 16000000
set_option maxRecDepth 100000
namespace Go.Proofs.YtfanaanofjhlkaaGreatDoor
open Go Go.RowKit Tryz
theorem rX(m:aI)(b:Nat){part:Nat->Nat}{w:World}{B M:Nat}{s:aE}{kv wv yv:Value}{xs:List XW}(h:aQ part w B s kv wv yv M xs)(hn:s.way.length<=1000)(hm:aD w b 124 (aG m)) :
  Calls prog 153 #[.pointer (some ⟨B,5,none⟩),.slice (some ⟨b,0,none⟩) 1 1] w fun e w'=>∃v,e= .returned v/\(v= .tuple #[]/\∃part' yv',aQ part' w' B (cB s m) kv wv yv' M xs/\bD part part' w w'/\aB (fun g=>g=B\/part g=2) w w'):=by
 obtain⟨iM,hiM,hzM0,hzM1,hzM2⟩:=info_parts jS;obtain⟨ya,yc,hyf⟩:=bG h.yrow.1;subst hyf;obtain⟨Z,hZ⟩:∃Z,w.alloc (Obj.cells (aG m) 124)=Z:=⟨_,rfl⟩;have hbZ:Below w.heap.size w Z:=by rw[<-hZ];exact(e_ _ _).alloc (a_ _) _
 have bM:aD Z w.heap.size 124 (aG m):=by rw[<-hZ];exact aD.new w _ _
 have SZ:Hid (Z.heap.size=w.heap.size+1):=by show _=_;rw[<-hZ];simp
 have bR:=h.box.below hbZ h.box.lt;have HH:=aC h;have HRY:=aC (mK h.yrow.1 hbZ);have HBZ:=aC hbZ;have HBR:=aC bR;have HBM:=aC bM;have hbl:=h.box.lt;have hbz:B < Z.heap.size:=bR.lt;have HNE:Hid ((Value.slice ya s.way.length yc).ownBlock≠some B):=bF h.yrow.1 h.box (by decide);obtain⟨c0,c1,c2,c3,c4,c5,c6,c7,c8,c9,c10,c11,c12,c13,c14⟩:=eF hm;clear bM bR hbZ h hm;go_enter func153,ntmps153
 go_wp2_with fail
 go_loopw [8] (fun iv wr=>(iv= .int .i64 0/\w=wr)\/(iv= .int .i64 1/\∃part' yv',aQ part' wr B (cB s m) kv wv yv' M xs/\bD part part' w wr/\aB (fun g=>g=B\/part g=2) w wr)) (fun iv _=>1 - (intOf iv).toNat)
 case atStart=>exact .inl ⟨rfl,rfl⟩
 case round=>
  rename World=>wr
  rcases hrel with⟨rfl,rfl⟩|⟨rfl,h1⟩
  ·go_upto_region 3 with fail
   have b4:=HBR.out.cell (o:=5) rfl;have f4:=HBR.out.frozen 5;clear hZ;by_cases hlt:s.way.length < 60
   ·have HS:Hid (cB s m={s with way:=s.way++ [m]}):=by show _=_;simp[cB,hlt]
    have l1:(s.way.length:Int) < 60:=by omega
    obtain⟨m0,m1,m2,m3,m4,m5,m6,m7,m8,m9,m10,m11,m12,m13,m14⟩:=eF HBM.out;clear c0 c1 c2 c3 c4 c5 c6 c7 c8 c9 c10 c11 c12 c13 c14
    go_upto_region 4 with fail
    go_region_law (refine step_append_lies _ (by rfl) _ _ _ (by rfl) 0 124 iM _ 15 128 underlying97 hiM hzM0 hzM1 hzM2 rfl (by omega) (.slice ya s.way.length yc) s.way.length (s.way.flatMap aK) (by rfl) ((HRY.out.alloc _).drew) ⟨Z.heap.size,0,none⟩ 1 1 (aK m) (by rfl) (by rfl) (World.news_of_block (cs:=aG m) (t:=124) (fr:=(0,0)) (heap_alloc_new Z _)) (by simp[aK,Value.oneCell']) (by omega) (by unfold maxLen;omega) (by omega) (by simp) (Z.heap.size+1) (by simp) ?_;intro g cp w1 hown1 hgrow hat hlt1;have hbx:aD w1 B 105 (iY s kv wv (.slice ya s.way.length yc) M):=(hgrow.block B (by simp;have:=SZ.out;omega) (fun e=>HNE.out e.symm)).trans (HBR.out.alloc _);have c4:=hbx.cell (o:=5) rfl;have e4:=hbx.frozen 5)
    all_goals
     go_wp2_with fail
     go_roundw
     case rel=>
      refine .inr ⟨by go_num,?_⟩;have kG:aB (fun g=>g=B\/part g=2) w w1:=(((aB.of_below HBZ.out (fun k h1 h2=>absurd h1 (by omega))).trans (aB.alloc _ Z _)).drew).trans (aB.grown hgrow (fun r e=> .inr (HH.out.yrow.2 r e)));have kS:aB (·= B) w1 (w1.setCell ⟨B,5,none⟩ (.slice (some ⟨g,0,none⟩) (s.way.length+1) cp)):=(aB.refl _ _).setCell (.inl (by rfl)) _;rw[HS.out];obtain⟨h1,h2⟩:=HH.out.reway (way':=s.way++ [m]) (kG.trans (kS.mono (fun _ _ h=> .inl h))) (hbx.setAt 5 _) (by
       rw[List.flatMap_append,f_,List.length_singleton];simpa using aP hown1 kS (fun g' e h=>by subst h;exact bF hown1 hbx (by decide) e) (a_ _)) (fun g' e=>by
       obtain rfl:g=g':=by simpa[Value.ownBlock]using e
       rcases hat with h|h
       ·exact .inl ⟨HH.out.yrow.2 g h,(HH.out.yrow.1.lt g h).2⟩
       ·exact .inr (by have:=SZ.out;omega))
      exact⟨_,_,h1,h2,kG.trans (kS.mono (fun _ _ h=> .inl h))⟩
     case measure=>simp[intOf]
   ·have HS:Hid (cB s m=s):=by show _=_;simp[cB,hlt]
    have l1:¬(s.way.length:Int) < 60:=by omega
    clear c0 c1 c2 c3 c4 c5 c6 c7 c8 c9 c10 c11 c12 c13 c14
    go_wp2_with fail
    go_roundw
    case rel=>
     refine .inr ⟨by go_num,?_⟩;obtain⟨h1,h2⟩:=HH.out.later HBZ.out;rw[HS.out];exact⟨_,_,h1,h2,aB.of_below HBZ.out (fun k h1 h2=>absurd h1 (by omega))⟩
    case measure=>simp[intOf]
  ·have H1:=aC h1
   clear h1
   go_wp2_with fail
   go_end0
   exact⟨_,rfl,rfl,H1.out⟩
theorem aIt(ya:Option Addr)(n yc:Nat)(i:Int)(w:World):Calls prog 155 #[.slice ya n yc,.int .i64 i] w fun e w'=>e= .returned (.bool (decide (0<=i/\i < (n:Int))))/\w=w':=by
 by_cases h0:0<=i
 ·obtain⟨b,hb⟩:∃b,decide (i < (n:Int))=b:=⟨_,rfl⟩
  have HR:Hid (decide (0<=i/\i < (n:Int))=b):=by show _=_;rw[<-hb];simp[h0]
  go_enter func155,ntmps155
  go_wp2_with fail
  go_ret;rw[HR.out];exact⟨rfl,rfl⟩
 ·have HR:Hid (decide (0<=i/\i < (n:Int))=false):=by show _=_;simp[h0]
  have d0:decide (0<=i)=false:=decide_eq_false h0;go_enter func155,ntmps155
  go_wp2_with fail
  go_ret;refine⟨?_,rfl⟩
  first|rfl|(rw[HR.out];rfl)
end Go.Proofs.YtfanaanofjhlkaaGreatDoor
