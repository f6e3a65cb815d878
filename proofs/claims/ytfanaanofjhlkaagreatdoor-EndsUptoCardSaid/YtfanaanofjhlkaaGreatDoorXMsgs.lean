import Derived.Test.YtfanaanofjhlkaaGreatDoorXToken
import Derived.Test.YtfanaanofjhlkaaGreatDoorXSteal2
import Derived.Test.YtfanaanofjhlkaaGreatDoorRefMessages
namespace Go.Proofs.YtfanaanofjhlkaaGreatDoor
open Go Go.RowKit
set_option maxHeartbeats 2000000 in
set_option maxRecDepth 100000 in
theorem isMessage1_calls(F:Nat->Prop)(B Br Bw:Nat)(s:RunS)(i:Int)(w:World)(hx:XOK F w B s)(hh:HeldAt w Br Bw B i) :
  Calls Tryz.prog 154 #[.pointer (some ⟨Br,0,none⟩),.pointer (some ⟨Bw,0,none⟩)] w fun e w'=>e= .returned (.int .i64 (if i < 0\/(s.way.length:Int)<=i then 10 else 0))/\Below w.heap.size w w':=by
 obtain⟨part,-,kv,wv,yv,M,xs,h⟩:=hx
 obtain⟨ya,yc,hyf⟩:=row_form h.yrow.1
 subst hyf
 have b4:w.cell? ⟨B,5,none⟩=some (.slice ya s.way.length yc):=h.box.cell (o:=5) rfl
 have r0:=hh.1.cell (o:=0) rfl
 have i0:=hh.2.cell (o:=0) rfl
 have HH:Hid (∀U,Calls Tryz.prog 155 #[.slice ya s.way.length yc,.int .i64 i] U fun e w'=>e= .returned (.bool (decide (0<=i/\i < (s.way.length:Int))))/\U=w'):=fun U=>has_calls ya s.way.length yc i U
 obtain⟨res,hres⟩:∃res:Int,(if i < 0\/(s.way.length:Int)<=i then(10:Int)else 0)=res:=⟨_,rfl⟩
 rw[hres]
 obtain⟨eb,heb⟩:∃eb,decide (0<=i/\i < (s.way.length:Int))=eb:=⟨_,rfl⟩
 rw[heb]at HH
 have hr:res=if eb then 0 else 10:=by
  rw[<-hres,<-heb]
  by_cases hc:0<=i/\i < (s.way.length:Int)
  ·rw[if_neg (by omega)];simp[hc]
  ·rw[if_pos (by omega)];simp[hc]
 clear h hh hres heb
 go_enter Tryz.func154,Tryz.ntmps154
 cases eb
 all_goals
  subst hr
  go_upto_region 1 with fail
  go_still_tail 5,(by kernel_rfl)
  go_wp2_with (go_at_call 155;refine(HH.out _).mono ?_;rintro e w1 ⟨rfl,rfl⟩)
  go_ret
  exact⟨rfl,(Below.refl _ _).drew⟩
set_option maxHeartbeats 2000000 in
set_option maxRecDepth 100000 in
theorem take_x(k:Nat)(m:MsgS){part:Nat->Nat}{w:World}{B M:Nat}{s:RunS}{kv wv yv:Value}{xs:List XW}(h:XAtO part w B s kv wv yv M xs)(hk:s.way[k]?= some m)(hn:s.way.length<=1000) :
  Calls Tryz.prog 158 #[.pointer (some ⟨B,5,none⟩),.int .i64 (k:Int)] w fun e w'=>∃v,e= .returned v/\(v= .agg (msgCells m)/\∃part' yv',XAtO part' w' B {s with way:=s.way.take k++s.way.drop (k+1)} kv wv yv' M xs/\XMoved part part' w w'):=by
 have hkl:=(List.getElem?_eq_some_iff.1 hk).1
 obtain⟨g,cap,hyf,-,hgl⟩:=World.ownsRow.form h.yrow.1 (by omega)
 subst hyf
 have hpg:part g=2:=h.yrow.2 g rfl
 have hwr:IntKind.i64.wrap ((k:Int)+1)=(k:Int)+1:=IntWalk.i64_in _ (by omega)
 obtain⟨V,hV⟩:∃V,w.alloc (Obj.cells (msgCells msg0) 124)=V:=⟨_,rfl⟩
 have gV:Below w.heap.size w V:=by rw[<-hV];exact(Below.refl _ _).alloc (Nat.le_refl _) _
 have sV:V.heap.size=w.heap.size+1:=by rw[<-hV];simp
 have rV:BoxAt V w.heap.size 124 (msgCells msg0):=by rw[<-hV];exact BoxAt.new w _ _
 obtain⟨Z,hZ⟩:∃Z,V.alloc (Obj.cells (msgCells m) 124)=Z:=⟨_,rfl⟩
 have gVZ:Below V.heap.size V Z:=by rw[<-hZ];exact(Below.refl _ _).alloc (Nat.le_refl _) _
 have sZ:Z.heap.size=w.heap.size+2:=by rw[<-hZ];simp[sV]
 have bZ:BoxAt Z (w.heap.size+1) 124 (msgCells m):=by rw[<-hZ,<-sV];exact BoxAt.new V _ _
 have rZ:BoxAt Z w.heap.size 124 (msgCells msg0):=rV.below gVZ rV.lt
 have gZ:Below w.heap.size w Z:=gV.trans (gVZ.mono gV.size)
 have hBl:=h.box.lt
 have b4:V.cell? ⟨B,5,none⟩=some (.slice (some ⟨g,0,none⟩) s.way.length cap):=(h.box.below gV hBl).cell (o:=5) rfl
 have b4':Z.cell? ⟨B,5,none⟩=some (.slice (some ⟨g,0,none⟩) s.way.length cap):=(h.box.below gZ hBl).cell (o:=5) rfl
 have hcm:∀o u,(msgCells m)[o]?= some u->V.cell? ⟨g,k*15+o,none⟩=some u:=fun o u ho=>by
  have:=h.yrow.1.cells (g:=g) rfl _ u (flat_get (sz:=15) (enc:=msgEnc) (fun _=>rfl) s.way k m o u hk (by simpa[msgEnc]using ho))
  rw[addr_add]at this
  exact(gV.cell (p:=⟨g,k*15+o,none⟩) hgl).trans this
 have m0:V.cell? ⟨g,k*15,none⟩=some (.int .i64 m.src):=hcm 0 _ rfl
 have m1:=hcm 1 _ rfl
 have m2:=hcm 2 _ rfl
 have m3:=hcm 3 _ rfl
 have m4:=hcm 4 _ rfl
 have m5:=hcm 5 _ rfl
 have m6:=hcm 6 _ rfl
 have m7:=hcm 7 _ rfl
 have m8:=hcm 8 _ rfl
 have m9:=hcm 9 _ rfl
 have m10:=hcm 10 _ rfl
 have m11:=hcm 11 _ rfl
 have m12:=hcm 12 _ rfl
 have m13:=hcm 13 _ rfl
 have m14:=hcm 14 _ rfl
 have j1:(0:Int)<=(k:Int):=by omega
 have j2:(k:Int) < (s.way.length:Int):=by omega
 have hgB:g≠B:=fun e=>by have:=h.pB;rw[<-e]at this;omega
 obtain⟨hA,hmA⟩:=h.later gZ
 have HD:Hid (Calls Tryz.prog 189 #[.slice (some ⟨g,0,none⟩) s.way.length cap,.int .i64 (k:Int),.int .i64 ((k:Int)+1)] Z fun e w'=>∃v,e= .returned v/\(v= .slice (some ⟨g,0,none⟩) (s.way.length - 1) cap/\BoxAt w' B 105 (xrunCells s kv wv (.slice (some ⟨g,0,none⟩) s.way.length cap) M)/\w'.ownsRow 0 124 15 (.slice (some ⟨g,0,none⟩) (s.way.length - 1) cap) (s.way.length - 1) ((s.way.take k++s.way.drop (k+1)).flatMap msgEnc)/\Kept (·= g) Z w')):=by
  refine(delete_calls g cap k s.way m Z hA.yrow.1 hk hn).mono ?_
  rintro e w' ⟨v,rfl,rfl,h1,h2⟩
  exact⟨_,rfl,rfl,hA.box.kept h2 (fun e=>hgB e.symm),h1,h2⟩
 have HA:=hid_of hA
 have HMA:=hid_of hmA
 have HBZ:=hid_of bZ
 have HRZ:=hid_of rZ
 have hpgZ:ext w part 0 g=2:=(ext_old hgl).trans hpg
 have hgZ:g < Z.heap.size:=by omega
 clear h hcm hA hmA gV gZ gVZ rV bZ rZ
 go_enter Tryz.func158,Tryz.ntmps158
 go_upto_region 1 with fail
 have e0:w.alloc (Obj.cells (msgCells msg0) 124)=V:=hV
 simp only[msg0]at e0
 try rw[e0]
 clear e0 hV
 go_upto_region 2 with fail
 try rw[sV]
 try rw[hZ]
 clear hZ b4 m0 m1 m2 m3 m4 m5 m6 m7 m8 m9 m10 m11 m12 m13 m14
 go_upto_region 3 with(go_at_call 189;refine HD.out.mono ?_;rintro e w1 ⟨v1,rfl,rfl,hb1,hr1,hk1⟩;have y4:=hb1.cell (o:=5) rfl;have f4:=hb1.frozen 5)
 obtain⟨w2,hw2⟩:∃w2,w1.setCell ⟨B,5,none⟩ (.slice (some ⟨g,0,none⟩) (s.way.length - 1) cap)=w2:=⟨_,rfl⟩
 have kS:Kept (·= B) w1 w2:=by rw[<-hw2];exact(Kept.refl _ _).setCell (.inl (by rfl)) _
 have hB2:BoxAt w2 B 105 (xrunCells {s with way:=s.way.take k++s.way.drop (k+1)} kv wv (.slice (some ⟨g,0,none⟩) (s.way.length - 1) cap) M):=by rw[<-hw2];exact hb1.setAt 5 _
 have hlen:(s.way.take k++s.way.drop (k+1)).length=s.way.length - 1:=by simp;omega
 obtain⟨h1,h2⟩:=HA.out.reway (way':=s.way.take k++s.way.drop (k+1)) ((hk1.mono (fun b _ e=>by subst e;exact .inr hpgZ)).trans (kS.mono (fun _ _ h=> .inl h))) hB2 (by
  rw[hlen]
  exact row_kept hr1 kS (fun g' e h=>by subst h;simp[Value.ownBlock]at e;exact hgB e) (Nat.le_refl _)) (fun g' e=>by
  obtain rfl:g=g':=by simpa[Value.ownBlock]using e
  exact .inl ⟨hpgZ,hgZ⟩)
 have b2:=(HBZ.out.kept hk1 (by omega)).kept kS (by omega)
 have r2:=(HRZ.out.kept hk1 (by omega)).kept kS (by omega)
 have HR2:=hid_of r2
 have H1:=hid_of h1
 have H2:=hid_of h2
 have fr:=r2.frozen
 obtain⟨n0,n1,n2,n3,n4,n5,n6,n7,n8,n9,n10,n11,n12,n13,n14⟩:=cells15 b2
 obtain⟨z0,z1,z2,z3,z4,z5,z6,z7,z8,z9,z10,z11,z12,z13,z14⟩:=cells15 r2
 try rw[hw2]
 clear hw2 b2 r2 hb1 hr1 hk1 y4 f4 kS hB2 h1 h2 hlen
 go_wp2_with fail
 change bodyPost Tryz.prog Tryz.f158 _ Exit.ret _ (putAll w2 w.heap.size 0 (msgEnc m))
 have kP:Kept (·= w.heap.size) w2 (putAll w2 w.heap.size 0 (msgEnc m)):=kept_putAll (X:=fun x=>x=w.heap.size) (.inl rfl) _ _ _ (Kept.refl _ _)
 have hbz:=box_putAll (msgEnc m) HR2.out rfl
 generalize putAll w2 w.heap.size 0 (msgEnc m)=U at kP hbz ⊢
 have hbv:BoxAt U w.heap.size 124 (msgCells m):=hbz
 obtain⟨q0,q1,q2,q3,q4,q5,q6,q7,q8,q9,q10,q11,q12,q13,q14⟩:=cells15 hbv
 refine bodyPost_ret (v:= .agg (msgCells m)) ?_ rfl ⟨_,rfl,rfl,?_⟩
 ·simp[results,Tryz.results158,go_sem,q0,q1,q2,q3,q4,q5,q6,q7,q8,q9,q10,q11,q12,q13,q14]
 ·have hz0:ext Z (ext w part 0) 2 w.heap.size=0:=(ext_old (by omega)).trans (ext_new (Nat.le_refl _))
  have h3:=H1.out.aside kP (fun g _ e=>by subst e;exact hz0)
  have hmv:=HMA.out.trans H2.out
  exact⟨_,_,h3,hmv.kept.andThen kP (fun b hb e=>by omega),fun b hb hp=>hmv.old b hb (by rwa [ext_old (Nat.lt_of_lt_of_le hb hmv.kept.size)]at hp),fun b hb hp=>by
   obtain⟨e1,e2⟩:=hmv.ends b hb hp
   have hb2:=Nat.lt_of_lt_of_le hb hmv.kept.size
   exact⟨(ext_old hb2).trans e1,(kP.block b hb2 (fun e=>by omega)).trans e2⟩⟩
set_option maxHeartbeats 2000000 in
set_option maxRecDepth 100000 in
theorem drop1_calls(F:Nat->Prop)(B Br Bw k:Nat)(m:MsgS)(s:RunS)(w:World)(hx:XOK F w B s)(hk:s.way[k]?= some m)(hn:s.way.length<=1000)(hh:HeldAt w Br Bw B k) :
  Calls Tryz.prog 178 #[.pointer (some ⟨Br,0,none⟩),.pointer (some ⟨Bw,0,none⟩)] w (XGives F w B ({s with way:=s.way.take k++s.way.drop (k+1)},0)):=by
 obtain⟨part,hpF,kv,wv,yv,M,xs,h⟩:=hx
 have HD:Hid (Calls Tryz.prog 158 #[.pointer (some ⟨B,5,none⟩),.int .i64 (k:Int)] w.drew fun e w'=>∃v,e= .returned v/\(v= .agg (msgCells m)/\XGives F w B ({s with way:=s.way.take k++s.way.drop (k+1)},0) (.returned (.int .i64 0)) w')):=by
  obtain⟨h2,hm2⟩:=h.later ((Below.refl w.heap.size w).drew)
  refine(take_x k m h2 hk hn).mono ?_
  rintro e w' ⟨v,rfl,rfl,part',yv',h3,hm3⟩
  obtain⟨h5,h6⟩:=(hm2.trans hm3).okX h3 hpF
  exact⟨_,rfl,rfl,rfl,h5,h6⟩
 have r0:=hh.1.cell (o:=0) rfl
 have i0:=hh.2.cell (o:=0) rfl
 clear h hh
 go_enter Tryz.func178,Tryz.ntmps178
 go_upto_region 1 with fail
 go_still_tail 4,(by kernel_rfl)
 go_wp2_with (go_at_call 158;refine HD.out.mono ?_;rintro e w3 ⟨v3,rfl,rfl,hres⟩;have HRES:=hid_of hres;clear hres)
 go_ret
 exact HRES.out
end Go.Proofs.YtfanaanofjhlkaaGreatDoor
