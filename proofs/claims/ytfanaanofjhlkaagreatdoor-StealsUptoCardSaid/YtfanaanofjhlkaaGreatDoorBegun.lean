import Derived.Test.YtfanaanofjhlkaaGreatDoorTamed
import Derived.Test.YtfanaanofjhlkaaGreatDoorMarkerV
import Derived.Test.YtfanaanofjhlkaaGreatDoorMarkV
import Derived.Test.YtfanaanofjhlkaaGreatDoorRangeG
set_option maxHeartbeats 16000000
set_option maxRecDepth 100000
namespace Go.Proofs.YtfanaanofjhlkaaGreatDoor
open Go Go.RowKit Tryz
theorem yE{ks:List aS}{kind arg:Int}(hu:(eC ks kind arg).1=0):cD ks kind arg=true:=by
 by_cases h:cD ks kind arg=true
 ·exact h
 ·simp[eC,h]at hu
theorem dC.new{workers room mode kind arg:Int}{ks:List aS}(hc:fC workers room mode=true)(hu:(eC ks kind arg).1=0):dC (dD workers room mode ks kind arg) 0:=by
 refine⟨eQ.new hc (yE hu),bJ.new _ _ _ _ _ _,cH.new _ _ _ _ _ _,fun o=>aKt _ _ _ _ _ _,List.Pairwise.nil,?_⟩;show(dH ks kind arg).length<=200;by_cases h:(dH ks kind arg).length<=200
 ·exact h
 ·simp[eC,yE hu,h]at hu
theorem aHv(k r W V i b c wk rm md pk pa:Int)(a:Option Addr)(cap:Nat)(ks:List aS)(w:World)(hk:bH (fun _=>True) w (.slice a ks.length cap) ks)(hl:ks.length*40<=140737488351232)(hl2:∀k∈ks,k.kids.length*16<=140737488351232) :
  Calls prog 27 #[.agg (cW k r W V i b c wk rm md (.slice a ks.length cap) pk pa)] w fun e w'=>∃xp wp,e= .returned (.tuple #[.agg #[.pointer xp,.pointer wp],.bool true])/\fK (fun g=>w.heap.size<=g) w' xp wp 0/\Below w.heap.size w w':=by
 have hkb:bH (fun b=>b < w.heap.size) w (.slice a ks.length cap) ks:=hk.below.mono (fun _ h=>h.2);have HP:Hid (∀W,Below w.heap.size w W->bH (fun b=>b < w.heap.size) W (.slice a ks.length cap) ks):=fun W hW=>hkb.kept (aB.of_below hW (X:=fun b=>w.heap.size<=b) (fun _ _ h=>h)) (fun b h1 h2=>by omega)
 have HPT:Hid (∀W,Below w.heap.size w W->bH (fun _=>True) W (.slice a ks.length cap) ks):=fun W hW=>(HP.out W hW).mono (fun _ _=>trivial)
 have HL2:Hid (∀k∈ks,k.kids.length*16<=140737488351232):=hl2;have hln:ks.length<=9223372036854775806:=by omega
 have hln2:∀k∈ks,k.kids.length<=9223372036854775806:=fun k hk=>by have:=hl2 k hk;omega
 obtain⟨Z,hZ⟩:∃Z,(w.alloc (Obj.cells (cW k r W V i b c wk rm md (.slice a ks.length cap) pk pa) 73)).alloc (Obj.cells #[.pointer none,.pointer none] 76)=Z:=⟨_,rfl⟩;have hbZ:Below w.heap.size w Z:=by rw[<-hZ];exact((e_ _ _).alloc (a_ _) _).alloc (by simp) _
 have HBO:Hid (aD Z w.heap.size 73 (cW k r W V i b c wk rm md (.slice a ks.length cap) pk pa)):=by show aD _ _ _ _;rw[<-hZ];exact(aD.new w _ _).alloc _
 have HBT:Hid (aD Z (w.heap.size+1) 76 #[.pointer none,.pointer none]):=by show aD _ _ _ _;rw[<-hZ];exact fM _ _ _ _ (by simp)
 have sZ:Z.heap.size=w.heap.size+2:=by rw[<-hZ];simp
 have HBZ:=aC hbZ;have HLE:Hid (∀W,bH (fun _=>True) W (.slice a ks.length cap) ks->Calls prog 61 #[.agg #[.slice a ks.length cap,.int .i64 pk,.int .i64 pa]] W fun e w'=>∃BL K,e= .returned (.agg #[.slice (some ⟨BL,0,none⟩) ks.length (ks.length+8),.int .i64 pk,.int .i64 pa])/\kI w' BL K ks/\W.heap.size<=BL/\BL < w'.heap.size/\Below W.heap.size W w'):=fun W h=>aIr a cap pk pa ks W h hl hl2
 have hnew:∃(er:Int) (isnil:Bool),(isnil=true->(∀(a:Option Addr) (cap:Nat) (W:World),bH (fun _=>True) W (.slice a ks.length cap) ks->Calls prog 21 #[.agg #[.int .i64 wk,.int .i64 rm,.int .i64 md],.agg #[.slice a ks.length cap,.int .i64 pk,.int .i64 pa]] W (fun e w'=>e= .returned (.tuple #[.pointer none,.int .i64 er])/\Below W.heap.size W w'))/\(∀(a:Option Addr) (cap:Nat) (W:World),bH (fun _=>True) W (.slice a ks.length cap) ks->Calls prog 63 #[.agg #[.int .i64 wk,.int .i64 rm,.int .i64 md],.agg #[.slice a ks.length cap,.int .i64 pk,.int .i64 pa]] W (fun e w'=>e= .returned (.tuple #[.pointer none,.int .i64 er])/\Below W.heap.size W w')))
   /\(isnil=false->dC (dD wk rm md ks pk pa) 0/\(∀(a:Option Addr) (cap:Nat) (W:World),bH (fun _=>True) W (.slice a ks.length cap) ks->Calls prog 21 #[.agg #[.int .i64 wk,.int .i64 rm,.int .i64 md],.agg #[.slice a ks.length cap,.int .i64 pk,.int .i64 pa]] W (fun e w'=>∃B,e= .returned (.tuple #[.pointer (some ⟨B,0,none⟩),.int .i64 er])/\bK (fun b=>W.heap.size<=b) w' B (dD wk rm md ks pk pa)/\Below W.heap.size W w'))/\(∀(a:Option Addr) (cap:Nat) (W:World),bH (fun _=>True) W (.slice a ks.length cap) ks->Calls prog 63 #[.agg #[.int .i64 wk,.int .i64 rm,.int .i64 md],.agg #[.slice a ks.length cap,.int .i64 pk,.int .i64 pa]] W (fun e w'=>∃B,e= .returned (.tuple #[.pointer (some ⟨B,0,none⟩),.int .i64 er])/\dW (fun b=>W.heap.size<=b) w' B (dD wk rm md ks pk pa)/\Below W.heap.size W w'))):=by
  by_cases hbad:kL wk rm md ks pk pa=0
  ·have hc:fC wk rm md=true:=by
    by_cases h:fC wk rm md=true
    ·exact h
    ·simp[kL,h]at hbad
   have hu:(eC ks pk pa).1=0:=by simpa[kL,hc]using hbad
   exact⟨0,false,(fun h=>by cases h),fun _=>⟨dC.new hc hu,fun a cap W h=>xF a cap wk rm md pk pa ks W h hc hu,fun a cap W h=>aEw a cap wk rm md pk pa ks W h hc hu⟩⟩
  ·exact⟨kL wk rm md ks pk pa,true,fun _=>⟨fun a cap W h=>aJg a cap wk rm md pk pa ks W h hln hln2 hbad,fun a cap W h=>aGr a cap wk rm md pk pa ks W h hln hln2 hbad⟩,(fun h=>by cases h)⟩
 obtain⟨er,isnil,hn1,hn2⟩:=hnew;have HN1:=aC hn1;have HN2:=aC hn2;clear hn1 hn2;have bO:=HBO.out;have o10:=bO.cell (o:=10) rfl;have o11:=bO.cell (o:=11) rfl;have o12:=bO.cell (o:=12) rfl;clear bO hkb hk hl2 hln hln2 hbZ;go_enter func27,ntmps27
 go_upto_region 2 with(go_at_call 61;refine(HLE.out Z (HPT.out Z HBZ.out)).mono ?_;rintro e w1 ⟨BL,K,rfl,hlent,hBL,hBL',hb1⟩)
 obtain⟨w2,hw2⟩:∃w2,w1.alloc (Obj.cells #[.slice (some ⟨BL,0,none⟩) ks.length (ks.length+8),.int .i64 pk,.int .i64 pa] 41)=w2:=⟨_,rfl⟩;have bQ:aD w2 w1.heap.size 41 #[.slice (some ⟨BL,0,none⟩) ks.length (ks.length+8),.int .i64 pk,.int .i64 pa]:=by rw[<-hw2];exact aD.new w1 _ _
 have hb2:Below w1.heap.size w1 w2:=by rw[<-hw2];exact(e_ _ _).alloc (a_ _) _
 have hs2:w2.heap.size=w1.heap.size+1:=by rw[<-hw2];simp
 rw[hw2];have hs1:=hb1.size;have HQ2:=aC bQ;have HKS:Hid (∀j,j < ks.length->K j < w1.heap.size):=hlent.lt;have HLENT2:Hid (kI w2 BL K ks):=hlent.below hb2 (a_ _);have hbZ2:Below Z.heap.size Z w2:=hb1.trans (hb2.mono hs1);have HB2:Hid (Below w.heap.size w w2):=HBZ.out.trans (hbZ2.mono (by omega));have HO2:Hid (aD w2 w.heap.size 73 (cW k r W V i b c wk rm md (.slice a ks.length cap) pk pa)):=HBO.out.below hbZ2 (by omega);have HT2:Hid (aD w2 (w.heap.size+1) 76 #[.pointer none,.pointer none]):=HBT.out.below hbZ2 (by omega);have q0:=bQ.cell (o:=0) rfl;have q1:=bQ.cell (o:=1) rfl;have q2:=bQ.cell (o:=2) rfl;have bo2:=HO2.out;clear o10 o11 o12 bQ hlent hb1 hb2 hbZ2 hw2 hZ HBO HBT HLE;have o7:=bo2.cell (o:=7) rfl;have o8:=bo2.cell (o:=8) rfl;have o9:=bo2.cell (o:=9) rfl;clear bo2;cases isnil
 ·have HG:=aC (HN2.out rfl)
  clear HN1 HN2
  go_upto_region 3 with(go_at_call 21;refine(HG.out.2.1 _ _ w2 (HLENT2.out.kinds.mono (fun _ _=>trivial))).mono ?_;rintro e w3 ⟨B1,rfl,hx3,hb3⟩)
  have HX3:=aC hx3;clear hx3;have hs3:=hb3.size;have HB3:Hid (Below w.heap.size w w3):=HB2.out.trans (hb3.mono (by omega));have HLENT3:Hid (kI w3 BL K ks):=HLENT2.out.below hb3 (a_ _);have HQ3:Hid (aD w3 w1.heap.size 41 #[.slice (some ⟨BL,0,none⟩) ks.length (ks.length+8),.int .i64 pk,.int .i64 pa]):=HQ2.out.below hb3 (by omega);have HO3:Hid (aD w3 w.heap.size 73 (cW k r W V i b c wk rm md (.slice a ks.length cap) pk pa)):=HO2.out.below hb3 (by omega);have HT3:Hid (aD w3 (w.heap.size+1) 76 #[.pointer none,.pointer none]):=HT2.out.below hb3 (by omega);clear hb3 o7 o8 o9 q0 q1 q2;have bq3:=HQ3.out;have q0:=bq3.cell (o:=0) rfl;have q1:=bq3.cell (o:=1) rfl;have q2:=bq3.cell (o:=2) rfl;have bo3:=HO3.out;have o10:=bo3.cell (o:=10) rfl;have o11:=bo3.cell (o:=11) rfl;have o12:=bo3.cell (o:=12) rfl;clear bq3 bo3
  go_upto_region 4 with(go_at_call 62;refine(yC a cap pk pa ks BL w1.heap.size K w3 HLENT3.out ((HP.out w3 HB3.out).mono (fun b h=>by omega)) hBL' HKS.out (by omega) hl HL2.out).mono ?_;rintro e w4 ⟨rfl,hk4⟩)
  have hs4:=hk4.size;have HB4:Hid (Below w.heap.size w w4):=HB3.out.trans (hk4.below (by omega) (fun g h=>by omega));have HO4:Hid (aD w4 w.heap.size 73 (cW k r W V i b c wk rm md (.slice a ks.length cap) pk pa)):=HO3.out.kept hk4 (by omega);have HT4:Hid (aD w4 (w.heap.size+1) 76 #[.pointer none,.pointer none]):=HT3.out.kept hk4 (by omega);have HX4:Hid (bK (fun g=>w2.heap.size<=g/\g < w3.heap.size) w4 B1 (dD wk rm md ks pk pa)):=HX3.out.kept hk4 (fun g h1 h=>⟨by omega,h,h1⟩);clear hk4 q0 q1 q2 o10 o11 o12;have bo4:=HO4.out;have o7:=bo4.cell (o:=7) rfl;have o8:=bo4.cell (o:=8) rfl;have o9:=bo4.cell (o:=9) rfl;have o10:=bo4.cell (o:=10) rfl;have o11:=bo4.cell (o:=11) rfl;have o12:=bo4.cell (o:=12) rfl;clear bo4
  go_upto_region 5 with(go_at_call 63;refine(HG.out.2.2 a cap w4 (HPT.out w4 HB4.out)).mono ?_;rintro e w5 ⟨B2,rfl,hr5,hb5⟩)
  have HR5:=aC hr5;have HX5:Hid (bK (fun g=>w2.heap.size<=g/\g < w3.heap.size) w5 B1 (dD wk rm md ks pk pa)):=HX4.out.later hb5;clear hr5;have hs5:=hb5.size;have HB5:Hid (Below w.heap.size w w5):=HB4.out.trans (hb5.mono (by omega));have HT5:Hid (aD w5 (w.heap.size+1) 76 #[.pointer none,.pointer none]):=HT4.out.below hb5 (by omega);clear hb5 o7 o8 o9 o10 o11 o12;have bt5:=HT5.out;have u0:=bt5.cell (o:=0) rfl;have u1:=bt5.cell (o:=1) rfl;have uf:=bt5.frozen;clear bt5
  go_wp2_with fail
  have hbz:=lB [.pointer (some ⟨B1,0,none⟩),.pointer (some ⟨B2,0,none⟩)] HT5.out rfl;have hkz:aB (·= w.heap.size+1) w5 (dR w5 (w.heap.size+1) 0 [.pointer (some ⟨B1,0,none⟩),.pointer (some ⟨B2,0,none⟩)]):=jC (X:=fun x=>x=w.heap.size+1) (.inl rfl) _ _ _ (aB.refl _ _);have v0:=hbz.cell (o:=0) rfl;have v1:=hbz.cell (o:=1) rfl;refine bodyPost_ret (v:= .tuple #[.agg #[.pointer (some ⟨B1,0,none⟩),.pointer (some ⟨B2,0,none⟩)],.bool true]) ?_ rfl ⟨_,_,rfl,?_,?_⟩
  ·dsimp only[dR]at v0 v1
   simp[results,results27,go_sem,v0,v1]
  ·exact .inr ⟨B1,B2,fun g=>w2.heap.size<=g/\g < w3.heap.size,fun g=>w4.heap.size<=g,dD wk rm md ks pk pa,rfl,rfl,HX5.out.kept hkz (fun g _ h=>⟨by omega,h⟩),HR5.out.kept hkz (fun g _ h=>⟨by omega,h⟩),fun g h=>⟨by omega,by omega⟩,fun g h=>by omega,HG.out.1⟩
  ·exact oU (show w.heap.size<=w.heap.size+1 by omega) [.pointer (some ⟨B1,0,none⟩),.pointer (some ⟨B2,0,none⟩)] 0 _ HB5.out
 ·have HG:=aC (HN1.out rfl)
  clear HN1 HN2
  go_upto_region 3 with(go_at_call 21;refine(HG.out.1 _ _ w2 (HLENT2.out.kinds.mono (fun _ _=>trivial))).mono ?_;rintro e w3 ⟨rfl,hb3⟩)
  have hs3:=hb3.size;have HB3:Hid (Below w.heap.size w w3):=HB2.out.trans (hb3.mono (by omega));have HLENT3:Hid (kI w3 BL K ks):=HLENT2.out.below hb3 (a_ _);have HQ3:Hid (aD w3 w1.heap.size 41 #[.slice (some ⟨BL,0,none⟩) ks.length (ks.length+8),.int .i64 pk,.int .i64 pa]):=HQ2.out.below hb3 (by omega);have HO3:Hid (aD w3 w.heap.size 73 (cW k r W V i b c wk rm md (.slice a ks.length cap) pk pa)):=HO2.out.below hb3 (by omega);have HT3:Hid (aD w3 (w.heap.size+1) 76 #[.pointer none,.pointer none]):=HT2.out.below hb3 (by omega);clear hb3 o7 o8 o9 q0 q1 q2;have bq3:=HQ3.out;have q0:=bq3.cell (o:=0) rfl;have q1:=bq3.cell (o:=1) rfl;have q2:=bq3.cell (o:=2) rfl;have bo3:=HO3.out;have o10:=bo3.cell (o:=10) rfl;have o11:=bo3.cell (o:=11) rfl;have o12:=bo3.cell (o:=12) rfl;clear bq3 bo3
  go_upto_region 4 with(go_at_call 62;refine(yC a cap pk pa ks BL w1.heap.size K w3 HLENT3.out ((HP.out w3 HB3.out).mono (fun b h=>by omega)) hBL' HKS.out (by omega) hl HL2.out).mono ?_;rintro e w4 ⟨rfl,hk4⟩)
  have hs4:=hk4.size;have HB4:Hid (Below w.heap.size w w4):=HB3.out.trans (hk4.below (by omega) (fun g h=>by omega));have HO4:Hid (aD w4 w.heap.size 73 (cW k r W V i b c wk rm md (.slice a ks.length cap) pk pa)):=HO3.out.kept hk4 (by omega);have HT4:Hid (aD w4 (w.heap.size+1) 76 #[.pointer none,.pointer none]):=HT3.out.kept hk4 (by omega);clear hk4 q0 q1 q2 o10 o11 o12;have bo4:=HO4.out;have o7:=bo4.cell (o:=7) rfl;have o8:=bo4.cell (o:=8) rfl;have o9:=bo4.cell (o:=9) rfl;have o10:=bo4.cell (o:=10) rfl;have o11:=bo4.cell (o:=11) rfl;have o12:=bo4.cell (o:=12) rfl;clear bo4
  go_upto_region 5 with(go_at_call 63;refine(HG.out.2 a cap w4 (HPT.out w4 HB4.out)).mono ?_;rintro e w5 ⟨rfl,hb5⟩)
  have hs5:=hb5.size;have HB5:Hid (Below w.heap.size w w5):=HB4.out.trans (hb5.mono (by omega));have HT5:Hid (aD w5 (w.heap.size+1) 76 #[.pointer none,.pointer none]):=HT4.out.below hb5 (by omega);clear hb5 o7 o8 o9 o10 o11 o12;have bt5:=HT5.out;have u0:=bt5.cell (o:=0) rfl;have u1:=bt5.cell (o:=1) rfl;have uf:=bt5.frozen;clear bt5
  go_wp2_with fail
  have hbz:=lB [.pointer none,.pointer none] HT5.out rfl;have hkz:aB (·= w.heap.size+1) w5 (dR w5 (w.heap.size+1) 0 [.pointer none,.pointer none]):=jC (X:=fun x=>x=w.heap.size+1) (.inl rfl) _ _ _ (aB.refl _ _);have v0:=hbz.cell (o:=0) rfl;have v1:=hbz.cell (o:=1) rfl;refine bodyPost_ret (v:= .tuple #[.agg #[.pointer none,.pointer none],.bool true]) ?_ rfl ⟨_,_,rfl,.inl ⟨rfl,rfl⟩,?_⟩
  ·dsimp only[dR]at v0 v1
   simp[results,results27,go_sem,v0,v1]
  ·exact oU (show w.heap.size<=w.heap.size+1 by omega) [.pointer none,.pointer none] 0 _ HB5.out
theorem aEc(w:World) :
  Calls prog 60 #[] w fun e w'=>∃B C,e= .returned (.agg #[.slice (some ⟨C,0,none⟩) 1 1,.int .i64 0,.int .i64 2])/\aD w' B 53 #[.int .i64 0,.int .i64 1,.int .i64 0,.int .i64 2]/\aD w' C 56 #[.int .i64 2,.int .i64 1,.slice (some ⟨B,0,none⟩) 2 2]/\Below w.heap.size w w':=by
 go_enter func60,ntmps60
 go_wp2_with fail
 obtain⟨W,hW⟩:∃W,((w.alloc (Obj.cells #[.slice (some ⟨w.heap.size+1+1,0,none⟩) 1 1,.int .i64 0,.int .i64 2] 41)).alloc (Obj.cells #[.int .i64 0,.int .i64 1,.int .i64 0,.int .i64 2] 53)).alloc (Obj.cells #[.int .i64 2,.int .i64 1,.slice (some ⟨w.heap.size+1,0,none⟩) 2 2] 56)=W:=⟨_,rfl⟩;have b0:aD W w.heap.size 41 #[.slice (some ⟨w.heap.size+1+1,0,none⟩) 1 1,.int .i64 0,.int .i64 2]:=by rw[<-hW];exact((aD.new w _ _).alloc _).alloc _
 have b1:aD W (w.heap.size+1) 53 #[.int .i64 0,.int .i64 1,.int .i64 0,.int .i64 2]:=by
  rw[<-hW];have:=(aD.new (w.alloc (Obj.cells #[.slice (some ⟨w.heap.size+1+1,0,none⟩) 1 1,.int .i64 0,.int .i64 2] 41)) 53 #[.int .i64 0,.int .i64 1,.int .i64 0,.int .i64 2]).alloc (Obj.cells #[.int .i64 2,.int .i64 1,.slice (some ⟨w.heap.size+1,0,none⟩) 2 2] 56);simpa only[World.size_alloc]using this
 have b2:aD W (w.heap.size+1+1) 56 #[.int .i64 2,.int .i64 1,.slice (some ⟨w.heap.size+1,0,none⟩) 2 2]:=by
  rw[<-hW];have:=aD.new ((w.alloc (Obj.cells #[.slice (some ⟨w.heap.size+1+1,0,none⟩) 1 1,.int .i64 0,.int .i64 2] 41)).alloc (Obj.cells #[.int .i64 0,.int .i64 1,.int .i64 0,.int .i64 2] 53)) 56 #[.int .i64 2,.int .i64 1,.slice (some ⟨w.heap.size+1,0,none⟩) 2 2];simpa only[World.size_alloc]using this
 have hb:Below w.heap.size w W:=by rw[<-hW];exact(((e_ _ _).alloc (a_ _) _).alloc (by simp) _).alloc (by simp;omega) _
 rw[hW];clear hW;have e0:=b0.cell (o:=0) rfl;have e1:=b0.cell (o:=1) rfl;have e2:=b0.cell (o:=2) rfl;exact bodyPost_ret (v:= .agg #[.slice (some ⟨w.heap.size+1+1,0,none⟩) 1 1,.int .i64 0,.int .i64 2]) (by simp[results,results60,go_sem,e0,e1,e2]) rfl ⟨w.heap.size+1,w.heap.size+1+1,rfl,b1,b2,hb⟩
theorem aLu{w:World}{B C:Nat}(hB:aD w B 53 #[.int .i64 0,.int .i64 1,.int .i64 0,.int .i64 2])(hC:aD w C 56 #[.int .i64 2,.int .i64 1,.slice (some ⟨B,0,none⟩) 2 2]):bH (fun _=>True) w (.slice (some ⟨C,0,none⟩) jB.length 1) jB:=by
 refine⟨_,1,rfl,fun j k hj=> ?_⟩;have hj0:j=0:=by
  rcases Nat.lt_or_ge j 1 with h|h
  ·omega
  ·rw[List.getElem?_eq_none (by simpa[jB]using h)]at hj;cases hj
 subst hj0;simp only[jB,List.getElem?_cons_zero,Option.some.injEq]at hj;subst hj;refine⟨C,0,.slice (some ⟨B,0,none⟩) 2 2,rfl,trivial,hC.lt,hC.cell rfl,hC.cell rfl,hC.cell rfl,some ⟨B,0,none⟩,2,rfl,fun i c hi=> ?_⟩
 match i,hi with
 |0,hi=>simp only[List.getElem?_cons_zero,Option.some.injEq]at hi;subst hi;exact⟨B,0,rfl,trivial,hB.lt,hB.cell rfl,hB.cell rfl⟩
 |1,hi=>simp only[List.getElem?_cons_succ,List.getElem?_cons_zero,Option.some.injEq]at hi;subst hi;exact⟨B,0,rfl,trivial,hB.lt,hB.cell rfl,hB.cell rfl⟩
 |i+2,hi=>simp at hi
theorem aLw:(cJ (dD 2 3 1 jB 0 2) 0).2=0:=by kernel_rfl
theorem aLv:eY (cJ (dD 2 3 1 jB 0 2) 0).1 0=([⟨⟨#[48]⟩,0,1⟩,⟨⟨#[49]⟩,0,0⟩],0):=by kernel_rfl
theorem aHe(w:World):Calls prog 26 #[] w fun e w'=>e= .returned (.bool true)/\Below w.heap.size w w':=by
 have hu:(eC jB 0 2).1=0:=by rw[aKb]
 have hal:dC (dD 2 3 1 jB 0 2) 0:=dC.new rfl hu;have HN:Hid (∀(C:Nat) (W:World),bH (fun _=>True) W (.slice (some ⟨C,0,none⟩) jB.length 1) jB->Calls prog 21 #[.agg #[.int .i64 2,.int .i64 3,.int .i64 1],.agg #[.slice (some ⟨C,0,none⟩) 1 1,.int .i64 0,.int .i64 2]] W fun e w'=>∃B,e= .returned (.tuple #[.pointer (some ⟨B,0,none⟩),.int .i64 0])/\bK (fun b=>W.heap.size<=b) w' B (dD 2 3 1 jB 0 2)/\Below W.heap.size W w'):=fun C W h=>xF (some ⟨C,0,none⟩) 1 2 3 1 0 2 jB W h rfl hu
 have HW:Hid (∀(F:Nat->Prop) (B:Nat) (W:World),bK F W B (dD 2 3 1 jB 0 2)->Calls prog 22 #[.pointer (some ⟨B,0,none⟩),.int .i64 0] W fun e w'=>e= .returned (.int .i64 0)/\bK (fun b=>F b\/W.heap.size<=b) w' B (cJ (dD 2 3 1 jB 0 2) 0).1/\aB F W w'):=fun F B W h=>by
  have:=wB F B 0 (dD 2 3 1 jB 0 2) 0 W h hal.fits hal.shaped hal.small (by omega) hal.known (Nat.zero_le _);rwa [aLw]at this
 have HT:Hid (∀(F:Nat->Prop) (B:Nat) (W:World),bK F W B (cJ (dD 2 3 1 jB 0 2) 0).1->Calls prog 23 #[.pointer (some ⟨B,0,none⟩),.int .i64 0] W fun e w'=>∃g cap,e= .returned (.tuple #[.slice (some ⟨g,0,none⟩) 2 cap,.int .i64 0])/\w'.cell? ⟨g,0,none⟩=some (.string ⟨#[48]⟩)/\w'.cell? ⟨g,2,none⟩=some (.int .i64 1)/\w'.cell? ⟨g,3,none⟩=some (.string ⟨#[49]⟩)/\w'.cell? ⟨g,5,none⟩=some (.int .i64 0)/\Below W.heap.size W w'):=fun F B W h=>by
  refine(vR F B (cJ (dD 2 3 1 jB 0 2) 0).1 0 W h (hal.work 0).fits).mono ?_;rw[aLv];rintro e w' ⟨v,rfl,hr,hb⟩;obtain⟨a,cap,rfl,hc⟩:=jL hr;obtain⟨g,rfl,-,-,c0⟩:=hc 0 _ rfl;obtain⟨g1,e1,-,-,c2⟩:=hc 2 _ rfl;obtain⟨g2,e2,-,-,c3⟩:=hc 3 _ rfl;obtain⟨g3,e3,-,-,c5⟩:=hc 5 _ rfl;cases e1;cases e2;cases e3;exact⟨g,cap,rfl,c0,c2,c3,c5,hb⟩
 clear hu hal;obtain⟨s0,hs0⟩:∃s0,dD 2 3 1 jB 0 2=s0:=⟨_,rfl⟩;rw[hs0]at HN HW HT;clear hs0;go_enter func26,ntmps26
 go_upto_region 6 with(first
  |(go_at_call 60;refine(aEc w).mono ?_;rintro e w1 ⟨B,C,rfl,hB,hC,hb1⟩
    have HK:=aC (aLu hB hC);have HB1:=aC hb1;clear hB hC hb1)
  |(go_at_call 21;refine(HN.out C w1 HK.out).mono ?_;rintro e w2 ⟨B1,rfl,hx2,hb2⟩
    have HX2:=aC hx2;have HB2:=aC hb2;clear hx2 hb2)
  |(go_at_call 22;refine(HW.out _ B1 w2 HX2.out).mono ?_;rintro e w3 ⟨rfl,hx3,hk3⟩
    have HX3:=aC hx3;have HK3:=aC hk3;clear hx3 hk3)
  |(go_at_call 23;refine(HT.out _ B1 w3 HX3.out).mono ?_;rintro e w4 ⟨g,cap,rfl,c0,c2,c3,c5,hb4⟩
    have HB4:=aC hb4;clear hb4))
 go_wp2_with fail
 go_ret;have e1:=HB1.out.size;have e2:=HB2.out.size;have e3:=HK3.out.size;exact⟨by simp,((HB1.out.trans (HB2.out.mono e1)).trans (HK3.out.below (by omega) (fun k h=>by omega))).trans (HB4.out.mono (by omega))⟩
end Go.Proofs.YtfanaanofjhlkaaGreatDoor
